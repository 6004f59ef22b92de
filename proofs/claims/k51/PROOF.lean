import PyProof.Rows.All
import Wide.All
import OpenK.AllK
import Wide.FinOn
import HandS.ForMost
import HandS.SortInts
import HandS.Wide
import HandS.IsInst
import HandS.Style
import HandS.Flow
import HandS.Zip
import KE.KTypeOf
import PyProof.TypeEq
import PyProof.ReprBulk
import PyProof.ReprRoads
import PyProof.Rows.RuleB_pow
import HandS.Iter
import KE.DataMinMax
import HandS.Defaults
import HandS.Conv
import HandS.NoneIn
import HandS.SortKw
import PyProof.WalkInts
import HandS.Walk
import HandS.Deep
import KE.KEqDeep
import HandS.Small
import KE.KDictZip
import HandS.GenList
import PySem.Challenge.RW_lowcolumns_k51_whole_effects_and_tops
set_option Elab.async false
set_option linter.all false
set_option maxRecDepth 100000
namespace Lc
open PySem PySem.Spec PyProof.Rows L2

/-! ### defs that call repr: their promise holds where no repr is under way -/
structure FnG (P : Program) (w : World) (K : PySem.W.Frag) (mg : Str → Option Value) (base : Heap)
    (CX : CXT) (k : Nat) (f : Addr) (fd : FuncData) (ps : List Str) (sp : Sp) : Prop where
  arity : ∀ vs H Q E, sp vs H Q E → vs.length = ps.length
  go : ∀ (A : Around) (outer : List Env) (s : Shared) (H : Hp) (args : Args) (us : List Value) (vs : List V) (Q : VK) (E : XK),
    A.guards = some [] → Room k A → Env0 P w K mg base A outer s H → BindsTo s fd args (ps.zip us) →
    Vals vs us → sp vs H Q E →
    codeAny (model P w) A (.call (.ref f) args) (CR CX outer P w H s Q E) s

theorem FnG.of {P : Program} {w : World} {K : PySem.W.Frag} {mg : Str → Option Value} {base : Heap} {CX : CXT} {k : Nat}
    {f : Addr} {fd : FuncData} {ps : List Str} {sp : Sp} (F : FnOk P w K mg base CX k f fd ps sp) : FnG P w K mg base CX k f fd ps sp :=
  ⟨F.len, fun A o s H a us vs Q E _ => F.run A o s H a us vs Q E⟩

section
variable {P : Program} {w : World} {K : PySem.W.Frag} {mg : Str → Option Value} {base : Heap} {CX : CXT}
/-- a def by its body, where no repr is under way -/
theorem funG {x qual : Str} {st : Stmt} {f : Addr} {fd : FuncData} {N ps : List Str} {k : Nat} {sp : Sp}
    (F : Fun K x qual st f fd) (S : FnScope N ps (defScope st)) (len : ∀ vs H Q E, sp vs H Q E → vs.length = ps.length)
    (hbody : ∀ (cdv : Value) (A : Around) (outer : List Env) (s : Shared) (H : Hp) (vs : List V) (Q : VK) (E : XK),
      A.guards = some [] → Room k (A.deeper (envOfC qual (defScope st) s.heap.objs.size f cdv)) → sp vs H Q E →
      ∃ t, PSs (cxOf CX P w K mg base N qual (defScope st) f cdv A outer s H E) (defBody st) t ∧
        t { nx := fun _ H' => Q .non H', rt := Q } (start N vs) H) :
    FnG P w K mg base CX (k + 1) f fd ps sp := by
  obtain ⟨oc, od, kV, doc, pm, an, cdv, ct, osl, rfl, lk, hcd⟩ := F.ex
  refine ⟨len, fun A outer s H args us vs Q E hgu hr e0 hb r hsp => ?_⟩
  have hl := len _ _ _ _ hsp
  have up : ∀ b o, base.get? b = some o → s.heap.get? b = some o := fun b o e => (e0.bs b o e).1
  have KX : K.In s.heap := e0.mod.kin.keeps up
  have lim : s.heap.NoLimit := e0.mod.nolimit.keeps up
  refine codeAny_call_function hr.depth (KX _ _ lk) rfl S.co S.gen rfl
    (PySem.W.codeRec_of KX hcd) (hb _ _ _ _ ?_)
  refine wpAny_newFunctionEnv_cells S.kind (fun y hy => ?_) fun env he s1 x => ?_
  · have hm := (List.of_mem_zip (show (y.1, y.2) ∈ ps.zip us from hy)).1
    cases S.par y.1 hm with
    | inl q => exact .inl q
    | inr q => exact .inr ⟨q, PySem.W.cellsFrom_some _ _ _ (.inl q)⟩
  subst he
  refine ⟨lim.keeps x.toInCall.keep, codeAny_func ?_⟩
  obtain ⟨t, ht, hq⟩ := hbody cdv A outer s H vs Q E hgu (hr.deeper _) hsp
  have I := inv_start (CX := CX) (P := P) (w := w) (qual := qual) (E := E) S hr.hd e0 hl r x
  refine wpAny_mono (ht.run [] s1 (start N vs) H _ I hq) (fun fl s' hs => ?_) (fun e s' hs => hs)
  cases fl with
  | ret u => obtain ⟨v, σ', H', J, rv, q⟩ := hs; exact ⟨v, H', J.os, J.bare, J.base, J.hok, rv, q⟩
  | next => obtain ⟨σ', H', J, q⟩ := hs; exact ⟨V.non, H', J.os, J.bare, J.base, J.hok, rfl, q⟩
  | brk => obtain ⟨_, _, _, q⟩ := hs; exact q.elim
  | cont => obtain ⟨_, _, _, q⟩ := hs; exact q.elim
end

/-- the same of a def that lets no exception out -/
theorem funG0 {P : Program} {w : World} {K : PySem.W.Frag} {mg : Str → Option Value} {base : Heap} {x qual : Str} {st : Stmt} {f : Addr} {fd : FuncData} {N ps : List Str} {k : Nat} {sp : Sp}
    (F : Fun K x qual st f fd) (S : FnScope N ps (defScope st)) (len : ∀ vs H Q E, sp vs H Q E → vs.length = ps.length)
    (hbody : ∀ (cdv : Value) (A : Around) (outer : List Env) (s : Shared) (H : Hp) (vs : List V) (Q : VK) (E : XK),
      A.guards = some [] → Room k (A.deeper (envOfC qual (defScope st) s.heap.objs.size f cdv)) → sp vs H Q E →
      ∃ t, PSs (cxOf CX0 P w K mg base N qual (defScope st) f cdv A outer s H E).nox (defBody st) t ∧
        t { nx := fun _ H' => Q .non H', rt := Q } (start N vs) H) : FnG P w K mg base CX0 (k + 1) f fd ps sp :=
  funG F S len fun cdv A outer s H vs Q E hgu hr h => by
    obtain ⟨t, ht, hq⟩ := hbody cdv A outer s H vs Q E hgu hr h
    exact ⟨t, ht.nox, hq⟩
section
variable {X : Cx} {CX : CXT} {k : Nat} {f : Addr} {fd : FuncData} {ps : List Str} {sp : Sp} {dvs : List V} {ds : List Value} {E : XK}
  {x : Str} {p pos : Pos} {e : Expr} {es : List Expr} {t tk : TA} {ks : List Str} {kws : List Keyword}
  {g : List Value → List Value → List Value} {gV : List V → List V → List V}
theorem afterG {pins : List (Addr × Obj)} {σ : L2.St} {H : Hp} {s : Shared} {Q : VK} (hx : Passes CX X E) (I : Inv X pins σ H s) {args : Args}
    (h : codeAny (model X.prog X.w) X.A (.call (.ref f) args) (CR CX X.stack X.prog X.w H s Q E) s) :
    wpAny (model X.prog X.w) X.A (call (.ref f) args.pos args.kw) (EP X pins σ Q) X.xe s := by
  refine wpAny_call (codeAny_mono h fun r s' hq => ?_)
  cases r with
  | error e => exact hx pins σ H s e s' I hq
  | ok fl => cases fl with
    | ret u => exact I.after hq
    | next => exact hq.elim
    | brk => exact hq.elim
    | cont => exact hq.elim
/-- f(e, ..) of such a def -/
theorem pe_callG (F : FnG X.prog X.w X.K X.mg X.base CX k f fd ps sp) (hgu : X.A.guards = some []) (hr : Room k X.A)
    (hg : Gl X x) (hm : X.mg x = some (.ref f)) (hk : PySem.W.keepIn X.K (.ref f) = true) (hb : Binds X.K fd ps ds)
    (hd : Vals dvs ds) (hx : Passes CX X E) (ha : PA X (e :: es) t)
    (hdb : (x == ("__debug__" : Str)) = false := by decide)
    (he : starEach (e :: es) X.env = (false, eval e X.env) :: starEach es X.env := by rfl)
    (hpl : (backTo pos (starEach es X.env)).any (·.1) = false := by rfl) :
    PE X (.Call (.Name x p) (e :: es) [] pos) (tCall sp dvs E t) := by
  refine ⟨fun pins s σ H Q I h => wpAny_Call_Name_kw (ld_glob I hg hm ?_ hdb)⟩
  refine PySem.W.callWith_K (h₀ := X.base) I.ok.mod.kin hk
    (thn (ha.run pos pins s σ H _ I h) fun us s1 ⟨vs, H1, I1, r, q⟩ => ⟨I1.kIn, ?_⟩) he hpl
  have r2 : Vals (vs ++ dvs) (us ++ ds) := r.append hd
  have hl : (us ++ ds).length = ps.length := r2.length.symm.trans (F.arity _ _ _ _ q)
  exact afterG hx I1 (F.go X.A X.stack s1 H1 ⟨us, []⟩ (us ++ ds) (vs ++ dvs) Q E hgu hr I1.env0 (hb s1 us I1.kIn hl) r2 q)
/-- f(k = v, ..), every argument by its name -/
theorem pe_callK0 (F : FnOk X.prog X.w X.K X.mg X.base CX k f fd ps sp) (hr : Room k X.A) (hg : Gl X x)
    (hm : X.mg x = some (.ref f)) (hk : PySem.W.keepIn X.K (.ref f) = true) (hb : KBinds X.K fd ps ks g gV) (hx : Passes CX X E)
    (hkw : PK X kws tk) (hall : (backToKw pos (keywordEach kws X.env)).all (·.1.isSome) = true := by rfl)
    (hks : (backToKw pos (keywordEach kws X.env)).filterMap (·.1) = ks := by rfl)
    (hdb : (x == ("__debug__" : Str)) = false := by decide)
    (hpl : ((backTo pos (starEach [] X.env)).any (·.1) || (backToKw pos (keywordEach kws X.env)).any (·.1.isNone)) = false := by rfl) :
    PE X (.Call (.Name x p) [] kws pos) (tCallK sp gV E tNil tk) := by
  refine ⟨fun pins s σ H Q I h => wpAny_Call_Name_kw (ld_glob I hg hm ?_ hdb)⟩
  refine PySem.W.callWith_KW0 (first := []) (h₀ := X.base) I.ok.mod.kin hk hall
    (thn (hkw.run pos pins s σ H _ I h) fun ws s1 ⟨zs, H1, I1, rz, q⟩ => ⟨I1.kIn, ?_⟩) hpl
  rw [hks]
  exact run_fnk (us := []) (vs := []) F hr hb hx I1 .nil rz q
end

/-! ### repr of data -/
/-- data whose repr is known and short: ints of at most 100 signs -/
structure Nice (d : PyData) : Prop where
  sh : d.showable = true
  nd : d.hasDict = false
  dp : d.depth ≤ 40
  lf : d.leavesShort 100 = true
  bk : d.bulk ≤ 100000
def rReprD (K : PySem.W.Frag) : List V → Hp → VK → Prop := fun xs H Q => ∃ a d, xs = [V.ref a] ∧ Dp K H (.ref a) d ∧ Nice d ∧ Q (.str d.shown) H
theorem call_repr_D {X : Cx} (hg : X.A.guards = some []) (hu : X.A.units + 64 < cLine) : CallR X (.builtin "repr") (rReprD X.K) := by
  intro pins s σ H xs us Q I r h
  obtain ⟨a, d, rfl, hd, n, q⟩ := h
  obtain ⟨u, rfl, ru⟩ := vals1 r
  obtain rfl : u = Value.ref a := ru
  obtain ⟨as, rd⟩ := Dp.reads I d (.ref a) (.ref a) hd rfl
  refine repr_of_reads' rd n.sh (PyData.noDict_hsm n.nd) hg (by have := n.dp; omega) (fun _ _ e => e) (fun h' v tk hk => ?_) ?_
  · exact ⟨.str d.shown, H, I.kept hk, ⟨_, rfl⟩, q⟩
  · have := PyData.shown_le_bulk 100 (by decide) d n.lf
    have := n.bk
    rw [sizeLine_eq]
    omega

/-! ### type(x), == of two built-in types -/
def rTypeX (K : PySem.W.Frag) : List V → Hp → VK → Prop := fun xs H Q => ∃ x T, xs = [x] ∧ TyX K H x (.type T) ∧ Q (.ty T) H
theorem call_type_list {X : Cx} : CallR X (.type "type") (fun xs H Q => ∃ a ys, xs = [V.ref a] ∧ SqL X.K H a ys ∧ Q (.ty "list") H) := by
  intro pins s σ H xs us Q I r h
  obtain ⟨a, ys, rfl, hs, q⟩ := h
  obtain ⟨u, rfl, ru⟩ := vals1 r
  obtain rfl : u = Value.ref a := ru
  obtain ⟨its, rv, pl, hz⟩ := I.list hs
  have ty : s.TypeIs (.ref a) "list" := pl.isList.typeIs
  exact PySem.call_type_of ty (by decide +kernel) ⟨.ty "list", H, I, rfl, q⟩
/-- == of the class list and the class list -/
def rEqTy : R2 := fun x y H Q => x = V.ty "list" ∧ y = V.ty "list" ∧ Q (V.bl true) H
theorem op_eqTy {X : Cx} : OpR X (compareOp .Eq) rEqTy := by
  intro pins s σ H x y v u Q I rx ry h
  obtain ⟨e1, e2, q⟩ := h
  subst e1
  subst e2
  have e3 : v = Value.type "list" := rx
  have e4 : u = Value.type "list" := ry
  subst e3
  subst e4
  have fin : EP X pins σ Q (Value.bool true) s := ⟨.bl true, H, I, rfl, q⟩
  exact PySem.TypeEq.eq_type_same (X := "list") PySem.TypeEq.meta_list fin
def CPowW (i j : Int) : Prop := 0 ≤ j ∧ (Builtin.Int.intBits i : Int) * j ≤ 2 ^ 27
theorem op_powW {X : Cx} : OpR X (binaryOp .Pow) (rI CPowW fun i j => .int (i ^ j.toNat)) := opI fun _ _ _ _ _ _ _ hc q => PyProof.Rows.pow_int hc.1 hc.2 q
theorem fdivW {i j : Int} (h0 : 0 < j) (h : j ≤ 100000000000000000000000000000000) : CDivW i j := by
  refine wide_div (b := 130) h0 ?_ (by decide) (by decide)
  have e : (2 : Nat) ^ 130 = 1361129467683753853853498429727072845824 := by decide +kernel
  rw [e]
  omega

/-- len(x) in a comprehension's block: the reading by K -/
def rLenK (K : PySem.W.Frag) : List V → Hp → VK → Prop := fun xs H Q => ∃ p ys, xs = [V.ref p] ∧ (SqL K H p ys ∨ SqT K H p ys) ∧ Q (.int (ys.length : Nat)) H

/-! ### heaps -/
/-- all that was tracked, but what stands at a, is as it was -/
def But (a : Addr) (H H' : Hp) : Prop := ∀ b o, b ≠ a → H b = some o → H' b = some o
theorem But.of {a : Addr} {H H' : Hp} (h : Same H H') : But a H H' := fun b o _ e => h b o e
theorem But.refl (a : Addr) (H : Hp) : But a H H := fun _ _ _ e => e
theorem But.trans {a : Addr} {H H1 H2 : Hp} (x : But a H H1) (y : But a H1 H2) : But a H H2 := fun b o n e => y b o n (x b o n e)
theorem But.upd (a : Addr) (H : Hp) (o : HO) : But a H (upd H a o) := fun b u n e => by rw [upd_ne n]; exact e
theorem same_new {H : Hp} {p : Addr} (o : HO) (h : H p = none) : Same H (upd H p o) := fun b x e => by
  rw [upd_ne (ne_of_none e h)]; exact e
theorem But.new {a : Addr} {H H1 : Hp} {p : Addr} (o : HO) (x : But a H H1) (h : H1 p = none) : But a H (L2.upd H1 p o) := x.trans (But.of (same_new o h))
/-- what was new and is changed: all else is as it was -/
theorem same_but {H H1 H2 : Hp} {p : Addr} (s : Same H H1) (n : H p = none) (b : But p H1 H2) : Same H H2 := fun c o e =>
  b c o (ne_of_none e n) (s c o e)
/-- a list that is read, at another place than a -/
def Oth (K : PySem.W.Frag) (a : Addr) (H : Hp) (l : Addr) (xs : List V) : Prop := SqL K H l xs ∧ (l ≠ a ∨ H l = none)
theorem But.seq {K : PySem.W.Frag} {a l : Addr} {H H' : Hp} {xs : List V} (b : But a H H') (h : SqL K H l xs) (n : l ≠ a) : SqL K H' l xs := by
  rcases h with (h | ⟨o, h⟩) | h
  · exact .inl (.inl (b _ _ n h))
  · exact .inl (.inr ⟨o, b _ _ n h⟩)
  · exact .inr h
/-- the script: locked, or of the module -/
def Scr (K : PySem.W.Frag) (H : Hp) (a : Addr) (xs : List V) : Prop := (∃ o, H a = some (.frz o (.lst xs))) ∨ ∀ H', SqL K H' a xs
theorem Scr.sq {K : PySem.W.Frag} {H : Hp} {a : Addr} {xs : List V} (h : Scr K H a xs) : SqL K H a xs := by
  rcases h with ⟨o, h⟩ | h
  · exact .inl (.inr ⟨o, h⟩)
  · exact h H
theorem scr_of {K : PySem.W.Frag} {H : Hp} {a : Addr} {xs : List V} (hO : Only H) (h : SqL K H a xs) : Scr K H a xs := by
  rcases h with (h | ⟨o, h⟩) | h
  · rcases hO a with z | ⟨o, ys, z⟩ <;> (rw [h] at z; cases z)
  · exact .inl ⟨o, h⟩
  · exact .inr fun _ => .inr h
theorem Scr.same {K : PySem.W.Frag} {H H' : Hp} {a : Addr} {xs : List V} (h : Scr K H a xs) (s : Same H H') : Scr K H' a xs := by
  rcases h with ⟨o, h⟩ | h
  · exact .inl ⟨o, s _ _ h⟩
  · exact .inr h
theorem Scr.but {K : PySem.W.Frag} {H H' : Hp} {a p : Addr} {xs : List V} (h : Scr K H a xs) (n : ∀ o u, H p ≠ some (.frz o u)) (b : But p H H') : Scr K H' a xs := by
  rcases h with ⟨o, h⟩ | h
  · exact .inl ⟨o, b _ _ (fun e => n _ _ (e ▸ h)) h⟩
  · exact .inr h

/-! ### loops in the shape that our promises have -/
theorem ite_t {c A B : Prop} [Decidable c] (hc : c) (h : A) : if c then A else B := by rw [if_pos hc]; exact h
theorem ite_f {c A B : Prop} [Decidable c] (hc : ¬ c) (h : B) : if c then A else B := by rw [if_neg hc]; exact h
theorem same_set {H H1 : Hp} {p : Addr} {o : HO} (s : Same H H1) (n : H p = none) : Same H (upd H1 p o) := fun b u e => by
  rw [upd_ne (ne_of_none e n)]
  exact s b u e
theorem same_lay {H H1 : Hp} {p : Addr} {o : HO} (s : Same H H1) (n : H1 p = none) : Same H (upd H1 p o) := same_set s (s.free n)
theorem take_map_succ {α β : Type} (f : α → β) {xs : List α} {i : Nat} {x : α} (h : xs[i]? = some x) : (xs.take i).map f ++ [f x] = (xs.take (i + 1)).map f := by
  rw [List.take_add_one, h, List.map_append]
  rfl
theorem get_map {α β : Type} {f : α → β} {xs : List α} {i : Nat} {y : β} (h : (xs.map f)[i]? = some y) : ∃ x, xs[i]? = some x ∧ y = f x := by
  rw [List.getElem?_map] at h
  cases e : xs[i]? with
  | none => rw [e] at h; cases h
  | some x => rw [e] at h; exact ⟨x, rfl, (Option.some.inj h).symm⟩
theorem get_lt {α : Type} {xs : List α} {i : Nat} {x : α} (h : xs[i]? = some x) : i < xs.length := (List.getElem?_eq_some_iff.mp h).1
theorem small_of {n m : Nat} (h : n ≤ m) (hm : m ≤ 100000) : n < sizeLine := by rw [sizeLine_eq]; omega
theorem small_le {n m : Nat} (h : n ≤ m) (hm : m ≤ 100000) : n ≤ sizeLine := by rw [sizeLine_eq]; omega
/-- ints of a list within bounds -/
def within (lo hi : Int) (ns : List Int) : Bool := ns.all fun n => decide (lo ≤ n ∧ n ≤ hi)
theorem bits_le {x : Int} {b : Nat} (h : x.natAbs < 2 ^ b) (hb : 0 < b) : Builtin.Int.intBits x ≤ b := by
  have l := PySem.Flt.log2_lt_of hb h
  unfold Builtin.Int.intBits
  split <;> omega

/-! ### the end of a law's row, where the law calls repr -/
theorem nil_no {α : Type} {b : α} (h : b ∈ ([] : List α)) {p : Prop} : p := by cases h
theorem lawG {P : Program} {w : World} {K : PySem.W.Frag} {mg mb : Str → Option Value} {CX : CXT} {k : Nat} {fa a : Addr} {fd : FuncData} {x : Str} {sp : Sp} {s₁ : Shared} {vs : List Value} {ns : List Int}
    (KX : K.In s₁.heap) (hns : s₁.heap.Ns mainGlobals mg) (hb : s₁.heap.Ns builtinsNs mb) (hbb : ∀ x : Str, x ≠ "__name__" → mb x = bootBuiltins x)
    (hlim : s₁.heap.NoLimit) (hg : s₁.gens = #[]) (ha : s₁.heap.get? a = some { cls := .type "list", data := .seq vs.toArray })
    (hi : IntsAre vs ns) (hl : ns.length ≤ sizeLine) (hr : Room k callerA)
    (F : ∀ base : Heap, K.In base → base.Ns mainGlobals mg → FnG P w K mg base CX k fa fd [x] sp)
    (hbind : ∀ (s : Shared) (u : Value), BindsTo s fd ⟨[u], []⟩ [(x, u)])
    (hsp : ∀ H : Hp, Only H → SqL K H a (ns.map V.int) → sp [.ref a] H (fun v _ => v = .bl true) fun _ _ _ => False)
    (hCX : ∀ H e s', CX [] H s₁ (fun _ _ _ => False) e s' → False) :
    codeAny (model P w) callerA (.call (.ref fa) ⟨[.ref a], []⟩)
      (fun r s' => r = .ok (.ret (.bool true)) ∧ OldK s₁.heap s'.heap ∧ s'.os = s₁.os ∧ AllBare s'.gens) s₁ := by
  have rv := vals_ints hi
  have lenV := hi.length
  /- H: what is tracked at the entry, the script at most -/
  have core : ∀ H : Hp, Only H → SqL K H a (ns.map V.int) → HOk P w H s₁.heap → (∀ b, H b ≠ none → b = a) →
      (H a ≠ none → K.lookup a = none) →
      codeAny (model P w) callerA (.call (.ref fa) ⟨[.ref a], []⟩)
        (fun r s' => r = .ok (.ret (.bool true)) ∧ OldK s₁.heap s'.heap ∧ s'.os = s₁.os ∧ AllBare s'.gens) s₁ := by
    intro H hO hS ok hA hK
    have onlyA : ∀ {b : Addr}, (b = a → False) → H b = none := fun {b} hn => by
      cases q : H b with
      | none => rfl
      | some u => exact (hn (hA b (by rw [q]; exact fun z => nomatch z))).elim
    have nsK : ∀ {b : Addr} {m : Str → Option Value}, s₁.heap.Ns b m → (hidT s₁.heap H).Ns b m := by
      rintro b m ⟨o, es, ep, e, d, r⟩
      refine ⟨o, es, ep, hidT_get e (onlyA fun z => ?_), d, r⟩
      subst z
      rw [ha] at e
      cases e
      exact nomatch d
    have hKb : K.In (hidT s₁.heap H) := fun b o e => by
      refine hidT_get (KX b o e) ?_
      cases q : H b with
      | none => rfl
      | some u =>
        have e' : b = a := hA b (by rw [q]; exact fun z => nomatch z)
        subst e'
        rw [hK (by rw [q]; exact fun z => nomatch z)] at e
        cases e
    obtain ⟨mc, h1, h2⟩ := hlim
    have hM : Mod K mg (hidT s₁.heap H) := ⟨hKb, nsK hns, ⟨mb, nsK hb, hbb⟩, ⟨mc, nsK h1, h2⟩⟩
    have e0 : Env0 P w K mg (hidT s₁.heap H) callerA [] s₁ H :=
      ⟨rfl, hM, fun b o e => of_hidT e, Nat.le_of_eq (hidT_size _ _), trivial, (fun b z => nil_no z), ok, AllBare.of_eq hg⟩
    have run := (F _ hKb (nsK hns)).go callerA [] s₁ H ⟨[.ref a], []⟩ [.ref a] [.ref a] _ _ rfl hr e0 (hbind s₁ (.ref a)) (.cons rfl .nil) (hsp H hO hS)
    refine codeAny_mono run fun r s' h => ?_
    match r, h with
    | .error e, h => exact (hCX H e s' h).elim
    | .ok .next, h => exact h.elim
    | .ok .brk, h => exact h.elim
    | .ok .cont, h => exact h.elim
    | .ok (.ret u), h =>
      obtain ⟨v, H', os, bare, un, hok', r', q⟩ := h
      obtain rfl : v = .bl true := q
      obtain rfl : u = Value.bool true := r'
      refine ⟨rfl, OldK.of_keep fun b o e => ?_, os, bare⟩
      rcases hO b with z | ⟨ob, xs, z⟩
      · exact un.keep b o e z (fun y => nil_no y) (fun y => nil_no y)
      · have e1 := (ok b _ z).1
        have e2 := (hok' b _ (un.frzs b ob _ z)).1
        rw [e] at e1
        cases e1
        exact e2
  cases hk : K.lookup a with
  | some o =>
    have e := KX a o hk
    rw [ha] at e
    cases e
    refine core (fun _ => none) (fun _ => .inl rfl) (.inr ⟨_, vs.toArray, _, hk, rfl, rfl, rfl, ?_, by simpa using rv⟩) ?_ (fun b z => absurd rfl z) (fun z => absurd rfl z)
    · rw [List.size_toArray, lenV]
      exact hl
    · intro b u z
      exact nomatch (show (none : Option HO) = some u from z)
  | none =>
    have at_ : ∀ b u, (if b = a then some (HO.frz { cls := .type "list", data := .seq vs.toArray } (.lst (ns.map V.int))) else none) = some u → b = a ∧ u = HO.frz { cls := .type "list", data := .seq vs.toArray } (.lst (ns.map V.int)) := fun b u z => by
      by_cases hb : b = a
      · rw [if_pos hb] at z
        exact ⟨hb, (Option.some.inj z).symm⟩
      · rw [if_neg hb] at z
        cases z
    refine core (fun b => if b = a then some (HO.frz { cls := .type "list", data := .seq vs.toArray } (.lst (ns.map V.int))) else none) (fun b => ?_) (.inl (.inr ⟨{ cls := .type "list", data := .seq vs.toArray }, if_pos rfl⟩)) (fun b u z => ?_) (fun b z => ?_) fun _ => hk
    · by_cases hb : b = a
      · exact .inr ⟨_, _, if_pos hb⟩
      · exact .inl (if_neg hb)
    · obtain ⟨hb, rfl⟩ := at_ b u z
      subst hb
      exact ⟨ha, by rw [List.length_map]; exact hl, vs, _, rv, ha⟩
    · by_cases hb : b = a
      · exact hb
      · exact absurd (if_neg hb) z
/-- the goal that the head leaves, from such a promise of the law's def -/
theorem walkG {l : PySem.W.OpenLaw} {n k : Nat} {q : Program} {loose : List Str} {XP : (Str → Option Value) → Heap → Prop} {YP : World → Heap → Prop} {d : DefRec} {K : Params → PySem.W.Frag} {CX : World → CXT} {sp : World → Sp} {x : Str}
    (hn : l.most = some n) (hn2 : n ≤ sizeLine) (hdf : d.params.defaults = []) (hr : Room k callerA) (hY : ∀ (w : World) (h : Heap), YP w h → (K w.params).In h)
    (F : ∀ (w : World) (mg : Str → Option Value) (fa : Addr) (h : Heap), (K w.params).In h → h.Ns mainGlobals mg → mg d.name = some (.ref fa) →
      ∃ fd : FuncData, (∀ (s : Shared) (u : Value), BindsTo s fd ⟨[u], []⟩ [(x, u)]) ∧ ∀ base : Heap, (K w.params).In base → base.Ns mainGlobals mg → FnG l.prog w (K w.params) mg base (CX w) k fa fd [x] (sp w))
    (hsp : ∀ (w : World) (H : Hp) (a : Addr) (ns : List Int), ns.length ≤ n → Only H → SqL (K w.params) H a (ns.map V.int) → sp w [.ref a] H (fun v _ => v = .bl true) fun _ _ _ => False)
    (hCX : ∀ (w : World) (H : Hp) (s : Shared) (e : Value) (s' : Shared), CX w [] H s (fun _ _ _ => False) e s' → False) :
    PySem.W.WalkO q loose XP YP l.row.toRowW d [] (fun f vs => PySem.call f vs) := by
  refine Att.attach_call hn hdf fun w s₀ s₁ mg mb fa o pm cd doc a vs ns G Y ho hd hcd hmg hobj hints hlen hg => ?_
  have KX := hY w _ Y
  obtain ⟨fd, hb, hF⟩ := F w mg fa _ KX G.T.g hmg
  exact lawG KX G.T.g G.T.b G.T.builtins G.T.nolimit hg hobj hints (Nat.le_trans hlen hn2) hr hF hb (fun H hO hS => hsp w H a ns hlen hO hS) (fun H e s' => hCX w H s₁ e s')
end Lc

/-! the mathematics of layouts: plain Lean -/
namespace Lc
/-- the first place of m -/
def ix (m : Int) : List Int → Nat
  | [] => 0
  | x :: xs => if x = m then 0 else ix m xs + 1
theorem ix_get {m : Int} : ∀ {cs : List Int}, m ∈ cs → cs[ix m cs]? = some m
  | [], h => by cases h
  | x :: xs, h => by
    unfold ix
    by_cases e : x = m
    · rw [if_pos e, e]; rfl
    · rw [if_neg e, List.getElem?_cons_succ]
      exact ix_get ((List.mem_cons.mp h).resolve_left fun z => e z.symm)
theorem ix_first {m : Int} : ∀ {cs : List Int} {k : Nat} {z : Int}, k < ix m cs → cs[k]? = some z → z ≠ m
  | [], k, z, h, e => by cases e
  | x :: xs, k, z, h, e => by
    unfold ix at h
    by_cases q : x = m
    · rw [if_pos q] at h; omega
    · rw [if_neg q] at h
      cases k with
      | zero => exact fun r => q ((Option.some.inj e).trans r)
      | succ k => exact ix_first (m := m) (cs := xs) (k := k) (by omega) (by simpa using e)
/-- the least item -/
def mn : List Int → Int
  | [] => 0
  | [x] => x
  | x :: y :: r => if x ≤ mn (y :: r) then x else mn (y :: r)
theorem mn_spec : ∀ {cs : List Int}, cs ≠ [] → mn cs ∈ cs ∧ ∀ y ∈ cs, mn cs ≤ y
  | [], h => absurd rfl h
  | [x], _ => ⟨List.mem_singleton.mpr rfl, fun y hy => by rw [List.mem_singleton.mp hy]; exact Int.le_refl _⟩
  | x :: y :: r, _ => by
    have ih := mn_spec (cs := y :: r) (by simp)
    show (if x ≤ mn (y :: r) then x else mn (y :: r)) ∈ _ ∧ ∀ z ∈ x :: y :: r, (if x ≤ mn (y :: r) then x else mn (y :: r)) ≤ z
    by_cases h : x ≤ mn (y :: r)
    · rw [if_pos h]
      refine ⟨List.mem_cons_self, fun z hz => ?_⟩
      rcases List.mem_cons.mp hz with rfl | hz
      · exact Int.le_refl _
      · exact Int.le_trans h (ih.2 z hz)
    · rw [if_neg h]
      refine ⟨List.mem_cons_of_mem _ ih.1, fun z hz => ?_⟩
      rcases List.mem_cons.mp hz with rfl | hz
      · omega
      · exact ih.2 z hz
theorem mn_eq {cs : List Int} {m : Int} (h : m ∈ cs) (h2 : ∀ y ∈ cs, m ≤ y) : mn cs = m := by
  have hn : cs ≠ [] := fun e => by rw [e] at h; cases h
  have s := mn_spec hn
  exact Int.le_antisymm (s.2 m h) (h2 _ s.1)
/-- the left one, or the right one, of the lowest columns -/
def low (r : Bool) (cs : List Int) : Nat := if r = true then cs.length - 1 - ix (mn cs) cs.reverse else ix (mn cs) cs
theorem low_get {r : Bool} {cs : List Int} (h : cs ≠ []) : cs[low r cs]? = some (mn cs) := by
  have s := (mn_spec h).1
  unfold low
  cases r with
  | false => rw [if_neg (by simp)]; exact ix_get s
  | true =>
    rw [if_pos rfl]
    have g := ix_get (cs := cs.reverse) (List.mem_reverse.mpr s)
    have l := (List.getElem?_eq_some_iff.mp g).1
    rw [List.getElem?_reverse (by simpa using l)] at g
    exact g
theorem low_lt {r : Bool} {cs : List Int} (h : cs ≠ []) : low r cs < cs.length := (List.getElem?_eq_some_iff.mp (low_get h)).1
/-- one card -/
def put (r : Bool) (s : List (Nat × Int) × List Int) (h : Int) : List (Nat × Int) × List Int :=
  (s.1 ++ [(low r s.2, mn s.2)], s.2.set (low r s.2) (mn s.2 + h))
/-- the places (column, top) of the cards, the columns behind them -/
def play (r : Bool) (cs hs : List Int) : List (Nat × Int) × List Int := hs.foldl (put r) ([], cs)
theorem play_snoc (r : Bool) (cs hs : List Int) (h : Int) : play r cs (hs ++ [h]) = put r (play r cs hs) h := by
  unfold play
  rw [List.foldl_append]
  rfl
theorem play_take {r : Bool} {cs hs : List Int} {i : Nat} {h : Int} (e : hs[i]? = some h) : play r cs (hs.take (i + 1)) = put r (play r cs (hs.take i)) h := by
  rw [List.take_add_one, e]
  exact play_snoc r cs _ h
theorem fold_len2 (r : Bool) : ∀ (hs : List Int) (s : List (Nat × Int) × List Int), (hs.foldl (put r) s).2.length = s.2.length ∧ (hs.foldl (put r) s).1.length = s.1.length + hs.length
  | [], s => ⟨rfl, rfl⟩
  | h :: hs, s => by
    have q := fold_len2 r hs (put r s h)
    refine ⟨q.1.trans (List.length_set ..), q.2.trans ?_⟩
    show (s.1 ++ [_]).length + hs.length = s.1.length + (hs.length + 1)
    rw [List.length_append]
    simp only [List.length_cons, List.length_nil]
    omega
theorem play_cols (r : Bool) (cs hs : List Int) : (play r cs hs).2.length = cs.length := (fold_len2 r hs _).1
theorem play_len (r : Bool) (cs hs : List Int) : (play r cs hs).1.length = hs.length := by
  have := (fold_len2 r hs ([], cs)).2
  simpa [play] using this
theorem ixN_nat {n j : Nat} (h : j < n) : L2.ixN n (j : Int) = some j := by
  unfold L2.ixN
  rw [if_pos (by omega), if_pos (by omega)]
  rfl
theorem play_append (r : Bool) (cs xs ys : List Int) : play r cs (xs ++ ys) = ys.foldl (put r) (play r cs xs) := List.foldl_append ..
theorem fold_pre (r : Bool) : ∀ (hs : List Int) (s : List (Nat × Int) × List Int), ∃ t, (hs.foldl (put r) s).1 = s.1 ++ t
  | [], s => ⟨[], (List.append_nil _).symm⟩
  | h :: hs, s => by
    obtain ⟨t, e⟩ := fold_pre r hs (put r s h)
    refine ⟨(low r s.2, mn s.2) :: t, e.trans ?_⟩
    show (s.1 ++ [_]) ++ t = _
    rw [List.append_assoc]
    rfl
/-- the i-th place is found by the first i cards -/
theorem play_at {r : Bool} {cs hs : List Int} {i : Nat} {h : Int} (e : hs[i]? = some h) : (play r cs hs).1[i]? = some (low r (play r cs (hs.take i)).2, mn (play r cs (hs.take i)).2) := by
  have il : i < hs.length := (List.getElem?_eq_some_iff.mp e).1
  have e1 : hs = hs.take (i + 1) ++ hs.drop (i + 1) := (List.take_append_drop _ _).symm
  obtain ⟨t, et⟩ := fold_pre r (hs.drop (i + 1)) (play r cs (hs.take (i + 1)))
  have e2 : (play r cs hs).1 = (play r cs (hs.take (i + 1))).1 ++ t := by
    conv => lhs; rw [e1, play_append]
    exact et
  have l1 : (play r cs (hs.take i)).1.length = i := by
    have := (fold_len2 r (hs.take i) ([], cs)).2
    simp only [play] at this ⊢
    rw [this, List.length_take]
    simp only [List.length_nil]
    omega
  rw [e2, play_take e]
  show ((play r cs (hs.take i)).1 ++ [_] ++ t)[i]? = _
  rw [List.append_assoc, List.getElem?_append_right (by omega), l1, Nat.sub_self]
  rfl
/-- the tops, the end -/
def tops (cs hs : List Int) : List Int := (play false cs hs).1.map (·.2)
def ends (cs hs : List Int) : List Int := (play false cs hs).2
theorem tops_len (cs hs : List Int) : (tops cs hs).length = hs.length := by
  unfold tops
  rw [List.length_map, play_len]
theorem play_ne {r : Bool} {cs hs : List Int} (h : cs ≠ []) : (play r cs hs).2 ≠ [] := fun e => h (List.length_eq_zero_iff.mp (by rw [← play_cols r cs hs, e]; rfl))
end Lc

namespace Lc
open PySem PySem.Spec PyProof.Rows L2
/-- data of depth at most k and N items at most, ints of at most 90 digits -/
structure Nc (k N : Nat) (d : PyData) : Prop where
  sh : d.showable = true
  cl : d.canLay0 = true
  dp : d.depth ≤ k
  lf : d.leavesShort 100 = true
  bk : d.bulk ≤ N
theorem nc_int {i : Int} (h : i.natAbs < 10 ^ 90) : Nc 0 0 (.int i) := by
  refine ⟨?_, rfl, Nat.le_refl _, ?_, Nat.le_refl _⟩
  · show decide (i.natAbs.log2 < 1920) = true
    have e : (10 : Nat) ^ 90 ≤ 2 ^ 1000 := by decide +kernel
    exact decide_eq_true (Nat.lt_trans (PySem.Flt.log2_lt_of (by decide) (Nat.lt_of_lt_of_le h e)) (by decide))
  · simp only [PyData.leavesShort, decide_eq_true_eq]
    have := int_text_length_le10 (a := i) (k := 90) (by decide) h
    show (Str.ofString (toString i)).length ≤ 100
    rw [PySem.ofString_length]
    omega
theorem nc_all {k N : Nat} : ∀ {ds : List PyData}, (∀ d ∈ ds, Nc k N d) → PyData.showableAll ds = true ∧ PyData.canLayAll0 ds = true ∧ PyData.depthAll ds ≤ k ∧ PyData.leavesShortAll 100 ds = true ∧ PyData.bulkAll ds ≤ ds.length * (N + 1)
  | [], _ => ⟨rfl, rfl, Nat.zero_le _, rfl, Nat.zero_le _⟩
  | d :: ds, h => by
    have h1 := h d List.mem_cons_self
    obtain ⟨a, b, c, e, f⟩ := nc_all fun x hx => h x (List.mem_cons_of_mem d hx)
    refine ⟨?_, ?_, ?_, ?_, ?_⟩
    · simp only [PyData.showableAll, h1.sh, a, Bool.and_self]
    · simp only [PyData.canLayAll0, h1.cl, b, Bool.and_self]
    · simp only [PyData.depthAll]
      exact Nat.max_le.mpr ⟨h1.dp, c⟩
    · simp only [PyData.leavesShortAll, h1.lf, e, Bool.and_self]
    · simp only [PyData.bulkAll, List.length_cons]
      have := h1.bk
      rw [Nat.add_mul]
      omega
theorem nc_list {k N : Nat} {ds : List PyData} (h : ∀ d ∈ ds, Nc k N d) : Nc (k + 1) (ds.length * (N + 1)) (.list ds) := by
  obtain ⟨a, b, c, e, f⟩ := nc_all h
  refine ⟨by simpa only [PyData.showable] using a, by simpa only [PyData.canLay0] using b, ?_, by simpa only [PyData.leavesShort] using e, by simpa only [PyData.bulk] using f⟩
  simp only [PyData.depth]
  omega
theorem nc_tup {k N : Nat} {ds : List PyData} (h : ∀ d ∈ ds, Nc k N d) : Nc (k + 1) (ds.length * (N + 1)) (.tuple ds) := by
  obtain ⟨a, b, c, e, f⟩ := nc_all h
  refine ⟨by simpa only [PyData.showable] using a, by simpa only [PyData.canLay0] using b, ?_, by simpa only [PyData.leavesShort] using e, by simpa only [PyData.bulk] using f⟩
  simp only [PyData.depth]
  omega
theorem Nc.mono {k N k' N' : Nat} {d : PyData} (h : Nc k N d) (h1 : k ≤ k') (h2 : N ≤ N') : Nc k' N' d := ⟨h.sh, h.cl, Nat.le_trans h.dp h1, h.lf, Nat.le_trans h.bk h2⟩
theorem Nc.nice {k N : Nat} {d : PyData} (h : Nc k N d) (h1 : k ≤ 40) (h2 : N ≤ 100000) : Nice d :=
  ⟨h.sh, PyData.hasDict_of_canLay d h.cl, Nat.le_trans h.dp h1, h.lf, Nat.le_trans h.bk h2⟩
theorem Nc.shaped {k N : Nat} {d : PyData} (h : Nc k N d) (h1 : k ≤ 40) : SeqAt.shaped d = true := by
  unfold SeqAt.shaped
  rw [h.cl, Bool.true_and]
  exact decide_eq_true (Nat.le_trans h.dp (by omega))
theorem nc_ints {ns : List Int} {N : Nat} (h : ∀ n ∈ ns, n.natAbs < 10 ^ 90) (hl : ns.length ≤ N) : Nc 1 N (.list (ns.map PyData.int)) := by
  have q := nc_list (k := 0) (N := 0) (ds := ns.map PyData.int) fun d hd => by
    obtain ⟨n, hn, rfl⟩ := List.mem_map.mp hd
    exact nc_int (h n hn)
  rw [List.length_map] at q
  exact q.mono (by decide) (by omega)
/-- any list of ints is data that == reads -/
theorem shapedInts (ns : List Int) : SeqAt.shaped (.list (ns.map PyData.int)) = true := by
  have a : ∀ ns : List Int, PyData.canLayAll0 (ns.map PyData.int) = true ∧ PyData.depthAll (ns.map PyData.int) = 0 := fun ns => by
    induction ns with
    | nil => exact ⟨rfl, rfl⟩
    | cons n ns ih => exact ⟨by simp only [List.map_cons, PyData.canLayAll0, PyData.canLay0, ih.1, Bool.and_self], by simp only [List.map_cons, PyData.depthAll, PyData.depth, ih.2]; rfl⟩
  unfold SeqAt.shaped
  simp only [PyData.canLay0, PyData.depth, (a ns).1, (a ns).2]
  decide
theorem dpInts {K : PySem.W.Frag} {H : Hp} : ∀ ns : List Int, DpAll K H (ns.map V.int) (ns.map PyData.int)
  | [] => .nil
  | n :: ns => .cons (.int n) (dpInts ns)
end Lc

namespace Lc
open PySem PySem.Spec PyProof.Rows L2
/-! columns as sorted lists -/
def Sorted (l : List Int) : Prop := l.Pairwise (· ≤ ·)
theorem set_perm : ∀ (ls : List Int) (j : Nat) (v : Int), j < ls.length → (ls.set j v).Perm (v :: ls.eraseIdx j)
  | [], _, _, h => absurd h (by simp)
  | _ :: _, 0, _, _ => List.Perm.refl _
  | x :: ls, j + 1, v, h => by
    have h' : j < ls.length := by simpa using h
    show (x :: ls.set j v).Perm (v :: x :: ls.eraseIdx j)
    exact ((set_perm ls j v h').cons x).trans (List.Perm.swap v x _)
theorem erase_perm : ∀ (ls : List Int) (j : Nat) (x : Int), ls[j]? = some x → (x :: ls.eraseIdx j).Perm ls
  | [], _, _, h => by cases h
  | y :: _, 0, x, h => by cases h; exact List.Perm.refl _
  | y :: ls, j + 1, x, h => by
    have h' : ls[j]? = some x := by simpa using h
    show (x :: y :: ls.eraseIdx j).Perm (y :: ls)
    exact (List.Perm.swap y x _).trans ((erase_perm ls j x h').cons y)
theorem sorted_head {x : Int} {l cs : List Int} (s : Sorted (x :: l)) (p : (x :: l).Perm cs) : mn cs = x :=
  mn_eq (p.subset List.mem_cons_self) fun y hy => by
    rcases List.mem_cons.mp (p.symm.subset hy) with rfl | h
    · exact Int.le_refl _
    · exact (List.pairwise_cons.mp s).1 y h
/-- one card, by the sorted columns -/
theorem put_sorted {r : Bool} {st : List (Nat × Int) × List Int} {x h : Int} {l l' : List Int} (s : Sorted (x :: l)) (p : (x :: l).Perm st.2) (q : l'.Perm ((x + h) :: l)) : l'.Perm (put r st h).2 := by
  have hne : st.2 ≠ [] := fun e => by rw [e] at p; exact absurd p.length_eq (by simp)
  have em := sorted_head s p
  have g := low_get (r := r) hne
  show l'.Perm (st.2.set (low r st.2) (mn st.2 + h))
  rw [em] at g ⊢
  refine q.trans ((List.Perm.cons _ ?_).trans (set_perm _ _ _ (low_lt hne)).symm)
  exact List.Perm.cons_inv (p.trans (erase_perm _ _ _ g).symm)
/-- a height put back at its place -/
theorem sorted_ins {h : Int} {l : List Int} {k : Nat} (s : Sorted l) (hlt : ∀ j z, j < k → l[j]? = some z → z < h) (hge : ∀ z, l[k]? = some z → h ≤ z) : Sorted (l.take k ++ [h] ++ l.drop k) := by
  have s1 : Sorted (l.take k) := s.sublist (List.take_sublist ..)
  have s2 : Sorted (l.drop k) := s.sublist (List.drop_sublist ..)
  have lo : ∀ z ∈ l.take k, z < h := fun z hz => by
    obtain ⟨j, hj, e⟩ := List.getElem_of_mem hz
    have hjk : j < k := by rw [List.length_take] at hj; omega
    refine hlt j z hjk ?_
    have := List.getElem?_eq_getElem hj
    rw [e, List.getElem?_take_of_lt hjk] at this
    exact this
  have hi : ∀ z ∈ l.drop k, h ≤ z := fun z hz => by
    cases e : l.drop k with
    | nil => rw [e] at hz; cases hz
    | cons y ys =>
      have hy : h ≤ y := by
        refine hge y ?_
        have := congrArg (·[0]?) e
        simpa [List.getElem?_drop] using this
      rw [e] at hz s2
      rcases List.mem_cons.mp hz with rfl | hz
      · exact hy
      · exact Int.le_trans hy ((List.pairwise_cons.mp s2).1 z hz)
  refine List.pairwise_append.mpr ⟨List.pairwise_append.mpr ⟨s1, List.pairwise_singleton _ _, fun a ha b hb => ?_⟩, s2, fun a ha b hb => ?_⟩
  · rw [List.mem_singleton.mp hb]
    exact Int.le_of_lt (lo a ha)
  · rcases List.mem_append.mp ha with ha | ha
    · exact Int.le_trans (Int.le_of_lt (lo a ha)) (hi b hb)
    · rw [List.mem_singleton.mp ha]; exact hi b hb
theorem ins_perm (l : List Int) (k : Nat) (h : Int) : (l.take k ++ [h] ++ l.drop k).Perm (h :: l) := by
  have e : (l.take k ++ [h] ++ l.drop k).Perm (h :: (l.take k ++ l.drop k)) := by
    rw [List.append_assoc]
    exact List.perm_middle
  rwa [List.take_append_drop] at e
theorem sorted_uniq : ∀ {a b : List Int}, Sorted a → Sorted b → a.Perm b → a = b
  | [], b, _, _, p => (List.Perm.nil_eq p)
  | x :: a, [], _, _, p => absurd p.length_eq (by simp)
  | x :: a, y :: b, sa, sb, p => by
    have e : y = x := by
      have h1 := sorted_head sa p
      have h2 := sorted_head sb p.symm
      have m1 := (mn_spec (cs := y :: b) (by simp))
      have m2 := (mn_spec (cs := x :: a) (by simp))
      have e1 : mn (x :: a) = mn (y :: b) := mn_eq (p.symm.subset m1.1) fun z hz => m1.2 z (p.subset hz)
      exact h2.symm.trans (e1.trans h1)
    subst e
    rw [sorted_uniq (List.pairwise_cons.mp sa).2 (List.pairwise_cons.mp sb).2 (List.Perm.cons_inv p)]
/-- slices -/
theorem cut_from {xs : List Int} {k : Nat} (h : k ≤ xs.length) : cutV (xs.map V.int) (some (k : Int)) none = (xs.drop k).map V.int := by
  unfold cutV
  rw [HT.sIx_nat, HT.sIx_none, List.length_map, Nat.min_eq_left h, ← List.map_drop, ← List.map_take, List.take_of_length_le (by rw [List.length_drop]; omega)]
theorem cut_to {xs : List Int} {k : Nat} (h : k ≤ xs.length) : cutV (xs.map V.int) none (some (k : Int)) = (xs.take k).map V.int := by
  unfold cutV
  rw [HT.sIx_nat, HT.sIx_none, List.length_map, Nat.min_eq_left h, ← List.map_drop, ← List.map_take]
  rfl
theorem cut_mid {xs : List Int} {i k : Nat} (h : k ≤ xs.length) (h2 : i ≤ k) : cutV (xs.map V.int) (some (i : Int)) (some (k : Int)) = ((xs.drop i).take (k - i)).map V.int := by
  unfold cutV
  rw [HT.sIx_nat, HT.sIx_nat, List.length_map, Nat.min_eq_left h, Nat.min_eq_left (by omega), ← List.map_drop, ← List.map_take]
end Lc

namespace Lc
open PySem PySem.Spec PyProof.Rows L2
theorem mn_perm {a b : List Int} (h : a ≠ []) (p : a.Perm b) : mn a = mn b := by
  have m := mn_spec (cs := b) (fun e => h (by rw [e] at p; exact p.eq_nil))
  exact mn_eq (p.symm.subset m.1) fun y hy => m.2 y (p.subset hy)
theorem put_cols (r : Bool) (s : List (Nat × Int) × List Int) (h : Int) (hne : s.2 ≠ []) : ∃ l, (mn s.2 :: l).Perm s.2 ∧ (put r s h).2.Perm ((mn s.2 + h) :: l) :=
  ⟨s.2.eraseIdx (low r s.2), erase_perm _ _ _ (low_get hne), set_perm _ _ _ (low_lt hne)⟩
theorem put_ne {r : Bool} {s : List (Nat × Int) × List Int} {h : Int} (hne : s.2 ≠ []) : (put r s h).2 ≠ [] := fun e => hne (by
  have : (s.2.set (low r s.2) (mn s.2 + h)).length = 0 := by show ((put r s h).2).length = 0; rw [e]; rfl
  rw [List.length_set] at this
  exact List.length_eq_zero_iff.mp this)
/-- the order of the columns, and the side, change no top and no height at the end -/
theorem fold_perm (r r' : Bool) : ∀ (hs : List Int) (s s' : List (Nat × Int) × List Int), s.2 ≠ [] → s.2.Perm s'.2 → s.1.map (·.2) = s'.1.map (·.2) →
    (hs.foldl (put r) s).1.map (·.2) = (hs.foldl (put r') s').1.map (·.2) ∧ (hs.foldl (put r) s).2.Perm (hs.foldl (put r') s').2
  | [], s, s', _, p, e => ⟨e, p⟩
  | h :: hs, s, s', hne, p, e => by
    have hne' : s'.2 ≠ [] := fun z => hne (by rw [z] at p; exact p.eq_nil)
    have em := mn_perm hne p
    obtain ⟨l, p1, p2⟩ := put_cols r s h hne
    obtain ⟨l', p1', p2'⟩ := put_cols r' s' h hne'
    have pl : l.Perm l' := List.Perm.cons_inv (a := mn s.2) (p1.trans (p.trans (by rw [em]; exact p1'.symm)))
    refine fold_perm r r' hs (put r s h) (put r' s' h) (put_ne hne) (p2.trans ((pl.cons _).trans ?_)) ?_
    · rw [em]; exact p2'.symm
    · show (s.1 ++ [(low r s.2, mn s.2)]).map (·.2) = (s'.1 ++ [(low r' s'.2, mn s'.2)]).map (·.2)
      rw [List.map_append, List.map_append, e, em]
      rfl
theorem tops_perm {cs os hs : List Int} (hne : cs ≠ []) (p : os.Perm cs) : tops os hs = tops cs hs :=
  (fold_perm false false hs ([], os) ([], cs) (fun e => hne (by have e' : os = [] := e; rw [e'] at p; exact p.nil_eq.symm)) p rfl).1
theorem ends_perm {cs os hs : List Int} (hne : cs ≠ []) (p : os.Perm cs) : (ends os hs).Perm (ends cs hs) :=
  (fold_perm false false hs ([], os) ([], cs) (fun e => hne (by have e' : os = [] := e; rw [e'] at p; exact p.nil_eq.symm)) p rfl).2
/-- tops never descend -/
theorem fold_sorted (r : Bool) : ∀ (hs : List Int) (s : List (Nat × Int) × List Int), s.2 ≠ [] → (∀ h ∈ hs, 0 ≤ h) → Sorted (s.1.map (·.2)) → (∀ t ∈ s.1.map (·.2), t ≤ mn s.2) → Sorted ((hs.foldl (put r) s).1.map (·.2))
  | [], s, _, _, so, _ => so
  | h :: hs, s, hne, hp, so, le => by
    obtain ⟨l, p1, p2⟩ := put_cols r s h hne
    have h0 := hp h List.mem_cons_self
    have m0 := mn_spec hne
    have m1 := mn_spec (put_ne (r := r) (h := h) hne)
    have up : mn s.2 ≤ mn (put r s h).2 := by
      rcases List.mem_cons.mp (p2.subset m1.1) with e | e
      · rw [e]; omega
      · exact m0.2 _ (p1.subset (List.mem_cons_of_mem _ e))
    have e1 : (put r s h).1.map (·.2) = s.1.map (·.2) ++ [mn s.2] := by
      show (s.1 ++ [(low r s.2, mn s.2)]).map (·.2) = _
      rw [List.map_append]; rfl
    refine fold_sorted r hs (put r s h) (put_ne hne) (fun x hx => hp x (List.mem_cons_of_mem _ hx)) ?_ ?_
    · rw [e1]
      refine List.pairwise_append.mpr ⟨so, List.pairwise_singleton _ _, fun a ha b hb => ?_⟩
      rw [List.mem_singleton.mp hb]
      exact le a ha
    · rw [e1]
      intro t ht
      rcases List.mem_append.mp ht with ht | ht
      · exact Int.le_trans (le t ht) up
      · rw [List.mem_singleton.mp ht]; exact up
theorem tops_sorted {cs hs : List Int} (hne : cs ≠ []) (hp : ∀ h ∈ hs, 0 ≤ h) : Sorted (tops cs hs) :=
  fold_sorted false hs ([], cs) hne hp List.Pairwise.nil fun t ht => by cases ht
/-- how high the columns, the tops, get -/
theorem fold_high (r : Bool) (B : Int) : ∀ (hs : List Int) (s : List (Nat × Int) × List Int) (M : Int), s.2 ≠ [] → (∀ h ∈ hs, 0 ≤ h ∧ h ≤ B) → (∀ c ∈ s.2, 0 ≤ c ∧ c ≤ M) → (∀ t ∈ s.1.map (·.2), 0 ≤ t ∧ t ≤ M) → 0 ≤ B →
    (∀ c ∈ (hs.foldl (put r) s).2, 0 ≤ c ∧ c ≤ M + hs.length * B) ∧ ∀ t ∈ (hs.foldl (put r) s).1.map (·.2), 0 ≤ t ∧ t ≤ M + hs.length * B
  | [], s, M, _, _, hc, ht, hB => ⟨fun c h => by have := hc c h; simp; omega, fun t h => by have := ht t h; simp; omega⟩
  | h :: hs, s, M, hne, hp, hc, ht, hB => by
    obtain ⟨l, p1, p2⟩ := put_cols r s h hne
    have h0 := hp h List.mem_cons_self
    have m0 := hc _ (mn_spec hne).1
    have q := fold_high r B hs (put r s h) (M + B) (put_ne hne) (fun x hx => hp x (List.mem_cons_of_mem _ hx)) (fun c hcm => ?_) (fun t htm => ?_) hB
    · have e : M + ((h :: hs).length : Nat) * B = M + B + (hs.length : Nat) * B := by
        rw [List.length_cons]
        have : (((hs.length + 1 : Nat)) : Int) * B = (hs.length : Int) * B + B := by
          rw [Int.natCast_add, Int.add_mul]; simp
        rw [this]; omega
      rw [e]
      exact q
    · rcases List.mem_cons.mp (p2.subset hcm) with e | e
      · rw [e]; omega
      · have := hc c (p1.subset (List.mem_cons_of_mem _ e)); omega
    · have e1 : (put r s h).1.map (·.2) = s.1.map (·.2) ++ [mn s.2] := by
        show (s.1 ++ [(low r s.2, mn s.2)]).map (·.2) = _
        rw [List.map_append]; rfl
      rw [e1] at htm
      rcases List.mem_append.mp htm with htm | htm
      · have := ht t htm; omega
      · rw [List.mem_singleton.mp htm]; omega
theorem nat_pow_big {n : Int} (h0 : 0 ≤ n) (h1 : n ≤ 1000000000000000000000000000000000) : n.natAbs < 10 ^ 90 := by
  have e : (10 : Nat) ^ 40 = 10000000000000000000000000000000000000000 := by decide +kernel
  have h3 : n.natAbs < 10 ^ 40 := by rw [e]; omega
  exact Nat.lt_of_lt_of_le h3 (Nat.pow_le_pow_right (by decide) (by decide))
theorem play_high {r : Bool} {cs hs : List Int} (hne : cs ≠ []) (hc : ∀ c ∈ cs, 0 ≤ c ∧ c ≤ 1000000000000000000000000000000) (hh : ∀ h ∈ hs, 1 ≤ h ∧ h ≤ 1000000000000000000000000000000) (hl : hs.length ≤ 200) :
    (∀ c ∈ (play r cs hs).2, c.natAbs < 10 ^ 90) ∧ ∀ t ∈ (play r cs hs).1.map (·.2), t.natAbs < 10 ^ 90 := by
  have q := fold_high r 1000000000000000000000000000000 hs ([], cs) 1000000000000000000000000000000 hne (fun h hm => by have := hh h hm; omega) hc (fun t ht => by cases ht) (by decide)
  have hb : 1000000000000000000000000000000 + (hs.length : Int) * 1000000000000000000000000000000 ≤ 1000000000000000000000000000000000 := by omega
  exact ⟨fun c h => by have := q.1 c h; exact nat_pow_big this.1 (Int.le_trans this.2 hb), fun t h => by have := q.2 t h; exact nat_pow_big this.1 (Int.le_trans this.2 hb)⟩
end Lc

namespace Lc
open PySem PySem.Spec PyProof.Rows L2
/-- a comprehension over enumerate of a list -/
theorem lc_enum {K : PySem.W.Frag} {a D : Addr} {xs : List V} {g : TG} {tt : TT} {te : TE} {vs : List Nat} {σ : L2.St} {H0 : Hp} {Qd : Hp → Prop}
    (Pv : Nat → Hp → Prop) (h0 : Pv 0 (upd H0 D (.lst []))) (hl : ∀ i H, i ≤ xs.length → Pv i H → SqL K H a xs)
    (hs : ∀ i x H T, xs[i]? = some x → Pv i H → H T = none → g (.ref T) (wipe σ vs) (upd H T (.tup [.int (i : Nat), x])) fun σ2 H2 =>
      wipe σ2 vs = wipe σ vs ∧ tt σ2 H2 fun b H3 => if b = true then te σ2 H3 fun y H4 => ∃ acc, H4 D = some (.lst acc) ∧ acc.length < sizeLine ∧ Pv (i + 1) (upd H4 D (.lst (acc ++ [y]))) else Pv (i + 1) H3)
    (hd : ∀ H, Pv xs.length H → Qd H) :
    ∃ W : Nat → Nat → Hp → Prop, (∃ m, W 0 m (upd H0 D (.lst []))) ∧ ∀ i m H, W i m H →
      (((Ite K a).stop i H ∧ Qd H) ∨ ((Ite K a).go i H ∧ ∃ Nx : Hp → Prop, (∀ H', Nx H' → ∃ m', m' < m ∧ W (i + 1) m' H') ∧
        ∀ x H', (Ite K a).yld i H x H' → g x (wipe σ vs) H' fun σ2 H2 => wipe σ2 vs = wipe σ vs ∧ tt σ2 H2 fun b H3 =>
          if b = true then te σ2 H3 fun y H4 => ∃ acc, H4 D = some (.lst acc) ∧ acc.length < sizeLine ∧ Nx (upd H4 D (.lst (acc ++ [y]))) else Nx H3)) := by
  refine ⟨fun i m H => m + i = xs.length ∧ Pv i H, ⟨xs.length, rfl, h0⟩, fun i m H hW => ?_⟩
  obtain ⟨em, p⟩ := hW
  have q := hl i H (by omega) p
  by_cases h : i < xs.length
  · refine .inr ⟨⟨xs, xs[i], q, List.getElem?_eq_getElem h⟩, Pv (i + 1), fun H' p' => ⟨m - 1, by omega, by omega, p'⟩, fun v H' y => ?_⟩
    obtain ⟨T, x, e1, nT, e2, hx⟩ := y
    subst e1
    subst e2
    exact hs i x H T (hx xs q) p nT
  · have e : i = xs.length := by omega
    subst e
    exact .inl ⟨⟨xs, q, Nat.le_refl _⟩, hd H p⟩
/-- min of a list of pairs of ints that an int of each pair orders -/
def PairAt (H : Hp) (v : V) (p : Int × Int) : Prop := ∃ q, v = .ref q ∧ H q = some (.tup [.int p.1, .int p.2])
def rMinP (K : PySem.W.Frag) : List V → Hp → VK → Prop := fun vs H Q => ∃ (a : Addr) (items : List V) (ps : List (Int × Int)) (f : Int × Int → Int), vs = [V.ref a] ∧ SqL K H a items ∧ items.length = ps.length ∧ 0 < ps.length ∧
  (∀ (i : Nat) (v : V) (p : Int × Int), items[i]? = some v → ps[i]? = some p → PairAt H v p) ∧
  (∀ p p', p ∈ ps → p' ∈ ps → HT.lexLt [p.1, p.2] [p'.1, p'.2] = decide (f p < f p')) ∧
  ∀ (i : Nat) (q : Addr) (p : Int × Int), items[i]? = some (.ref q) → ps[i]? = some p → H q = some (.tup [.int p.1, .int p.2]) → (∀ p' ∈ ps, f p ≤ f p') → Q (.ref q) H
theorem cr_minP {X : Cx} (hc : X.calm = true) (hu : X.A.units + 64 < cLine) : CallR X (.builtin "min") (rMinP X.K) := by
  intro pins s σ H vs us Q I r h
  obtain ⟨a, items, ps, f, rfl, hs, hlen, hpos, hp, hf, q⟩ := h
  obtain ⟨its, rv, pl, _⟩ := I.list hs
  obtain ⟨u, rfl, ru⟩ := vals1 r
  obtain rfl : u = Value.ref a := ru
  have hl := pl.isList
  have at_ : ∀ (i : Nat) (v : Value), its.toArray[i]? = some v → ∃ q p, v = .ref q ∧ ps[i]? = some p ∧ H q = some (.tup [.int p.1, .int p.2]) := fun i v e => by
    have e' : its[i]? = some v := by simpa using e
    have hi : i < items.length := by rw [rv.length]; exact (List.getElem?_eq_some_iff.mp e').1
    obtain ⟨u, hu', ru⟩ := rv.get (List.getElem?_eq_getElem hi)
    rw [e'] at hu'
    cases hu'
    obtain ⟨q, eq, hq⟩ := hp i _ _ (List.getElem?_eq_getElem hi) (List.getElem?_eq_getElem (by omega))
    rw [eq] at ru
    exact ⟨q, _, ru, List.getElem?_eq_getElem (by omega), hq⟩
  have hsz : its.toArray.size = ps.length := by rw [List.size_toArray, ← rv.length, hlen]
  refine PySem.call_min_walkH (iter_any hl fun s₂ e2 st hne => ?_)
  subst e2
  have W := (Walks.list (prog := X.prog) (w := X.w) (A := X.A.in1) (I.ok.hd hc) s.heap.objs.size a hne its.toArray).toS
  refine ⟨_, _, _, _, _, _, _, s.heap, fun i j => decide (f (ps.getD i (0, 0)) < f (ps.getD j (0, 0))), rfl, W, st, ?_, by rw [hsz]; exact hpos, ?_, ?_, ?_, fun v s' hP hm => ?_⟩
  · intro b hb
    simp only [List.mem_cons, List.not_mem_nil, or_false] at hb
    rcases hb with rfl | rfl
    · simp [Heap.push]
    · exact Nat.lt_of_lt_of_le (by obtain ⟨_, e, _⟩ := hl; exact Heap.lt_size e) (by simp [Heap.push])
  · intro b o e hb
    rw [List.mem_singleton.mp hb] at e
    exact Nat.lt_irrefl _ (Heap.lt_size e)
  · intro b o e
    exact Heap.get?_push_of_some _ e
  · intro i j vi vj s1 Q1 E1 hk ei ej hq
    obtain ⟨q1, p1, rfl, ep1, h1⟩ := at_ i vi ei
    obtain ⟨q2, p2, rfl, ep2, h2⟩ := at_ j vj ej
    obtain ⟨_, t1, r1, o1, g1, c1⟩ := (show ObjOk X.prog X.w H s.heap q1 (.tup _) from I.hok q1 _ h1)
    obtain ⟨_, t2, r2, o2, g2, c2⟩ := (show ObjOk X.prog X.w H s.heap q2 (.tup _) from I.hok q2 _ h2)
    have i1 : IntsAre t1.toArray.toList [p1.1, p1.2] := intsAre_of r1
    have i2 : IntsAre t2.toArray.toList [p2.1, p2.2] := intsAre_of r2
    have m1 : p1 ∈ ps := List.mem_of_getElem? ep1
    have m2 : p2 ∈ ps := List.mem_of_getElem? ep2
    show wpAny _ _ (compareOp .Lt (.ref q1) (.ref q2)) Q1 E1 s1
    refine HT.lt_tupInts ⟨o1, hk _ _ g1, c1⟩ ⟨o2, hk _ _ g2, c2⟩ i1 i2 (by show X.A.units + 1 < cLine; omega) ?_
    rw [hf p1 p2 m1 m2]
    have hq' : Q1 (Value.bool (decide (f (ps.getD i (0, 0)) < f (ps.getD j (0, 0))))) s1 := hq
    rw [List.getD_eq_getElem?_getD, List.getD_eq_getElem?_getD, ep1, ep2] at hq'
    exact hq'
  · obtain ⟨b1, b2⟩ := argBest_lt (fun i => f (ps.getD i (0, 0))) (its.toArray.size - 1)
    have hP' : its.toArray[argBest (fun i j => decide (f (ps.getD i (0, 0)) < f (ps.getD j (0, 0)))) (its.toArray.size - 1)]? = some v := hP
    generalize argBest (fun i j => decide (f (ps.getD i (0, 0)) < f (ps.getD j (0, 0)))) (its.toArray.size - 1) = k at hP' b1 b2
    obtain ⟨q1, p1, rfl, ep1, h1⟩ := at_ k v hP'
    have hit : items[k]? = some (.ref q1) := by
      have hk : k < items.length := by have := (List.getElem?_eq_some_iff.mp ep1).1; omega
      obtain ⟨q2, e2, h2⟩ := hp k _ _ (List.getElem?_eq_getElem hk) ep1
      obtain ⟨u, hu', ru⟩ := rv.get (List.getElem?_eq_getElem hk)
      have hP2 : its[k]? = some (Value.ref q1) := by simpa using hP'
      rw [hP2] at hu'
      cases hu'
      rw [e2] at ru
      have e3 : Value.ref q1 = Value.ref q2 := ru
      cases e3
      rw [List.getElem?_eq_getElem hk, e2]
    refine ⟨.ref q1, H, ?_, rfl, q k q1 p1 hit ep1 h1 fun p' hp' => ?_⟩
    · obtain ⟨h', g', d', t', o'⟩ := s'
      obtain ⟨m1, m2, m3, m4, m5⟩ := hm
      have e2 : g' = s.gens := m2
      have e3 : d' = s.drawn := m3
      have e4 : o' = s.os := m4
      subst e2 e3 e4
      refine I.kept fun b o e => m1 b o (fun hb => ?_) (Heap.get?_push_of_some _ e)
      rw [List.mem_singleton.mp hb] at e
      exact Nat.lt_irrefl _ (Heap.lt_size e)
    · obtain ⟨j, hj, e5⟩ := List.getElem_of_mem hp'
      have := b2 j (by omega)
      rw [List.getD_eq_getElem?_getD, List.getD_eq_getElem?_getD, ep1, List.getElem?_eq_getElem hj, e5] at this
      exact this
end Lc

namespace Lc
open PySem PySem.Spec PyProof.Rows L2
theorem low_char {r : Bool} {cs : List Int} {i : Nat} (h : cs[i]? = some (mn cs)) (h2 : ∀ j : Nat, cs[j]? = some (mn cs) → if r = true then j ≤ i else i ≤ j) : i = low r cs := by
  have hi : i < cs.length := (List.getElem?_eq_some_iff.mp h).1
  have hne : cs ≠ [] := fun e => by rw [e] at hi; simp at hi
  have g := low_get (r := r) hne
  have q := h2 _ g
  cases r with
  | false =>
    have q' : i ≤ low false cs := q
    by_cases e : i = low false cs
    · exact e
    · have lt : i < ix (mn cs) cs := by
        have : low false cs = ix (mn cs) cs := rfl
        omega
      exact absurd rfl (ix_first lt h)
  | true =>
    have q' : low true cs ≤ i := q
    by_cases e : i = low true cs
    · exact e
    · have el : low true cs = cs.length - 1 - ix (mn cs) cs.reverse := rfl
      have lt : cs.length - 1 - i < ix (mn cs) cs.reverse := by
        have := (List.getElem?_eq_some_iff.mp (ix_get (cs := cs.reverse) (List.mem_reverse.mpr (mn_spec hne).1))).1
        rw [List.length_reverse] at this
        omega
      have h3 : cs.reverse[cs.length - 1 - i]? = some (mn cs) := by
        rw [List.getElem?_reverse (by omega), show cs.length - 1 - (cs.length - 1 - i) = i by omega]
        exact h
      exact absurd rfl (ix_first lt h3)
/-- the pairs (height, side * place) of the columns -/
def prs (sd : Int) (cs : List Int) : List (Int × Int) := (List.range cs.length).map fun j => (cs.getD j 0, sd * (j : Int))
theorem prs_len (sd : Int) (cs : List Int) : (prs sd cs).length = cs.length := by unfold prs; rw [List.length_map, List.length_range]
theorem prs_get {sd : Int} {cs : List Int} {i : Nat} {p : Int × Int} (h : (prs sd cs)[i]? = some p) : ∃ c, cs[i]? = some c ∧ p = (c, sd * (i : Int)) := by
  have hi : i < cs.length := by rw [← prs_len sd cs]; exact (List.getElem?_eq_some_iff.mp h).1
  unfold prs at h
  rw [List.getElem?_map, List.getElem?_range hi] at h
  refine ⟨cs[i], List.getElem?_eq_getElem hi, ?_⟩
  have := Option.some.inj h
  rw [← this]
  show (cs.getD i 0, _) = _
  rw [List.getD_eq_getElem?_getD, List.getElem?_eq_getElem hi]
  rfl
theorem prs_at {sd : Int} {cs : List Int} {i : Nat} {c : Int} (h : cs[i]? = some c) : (prs sd cs)[i]? = some (c, sd * (i : Int)) := by
  have hi : i < cs.length := (List.getElem?_eq_some_iff.mp h).1
  unfold prs
  rw [List.getElem?_map, List.getElem?_range hi]
  show some (cs.getD i 0, _) = _
  rw [List.getD_eq_getElem?_getD, h]
  rfl
def ordP (p : Int × Int) : Int := p.1 * 64 + p.2
theorem side_abs {sd : Int} {j : Nat} (hs : sd = 1 ∨ sd = -1) (hj : j < 31) : -31 < sd * (j : Int) ∧ sd * (j : Int) < 31 := by
  rcases hs with rfl | rfl <;> omega
theorem lex_ord {a b c d : Int} (hb : -31 < b ∧ b < 31) (hd : -31 < d ∧ d < 31) : HT.lexLt [a, b] [c, d] = decide (ordP (a, b) < ordP (c, d)) := by
  show (if a = c then (if b = d then false else decide (b < d)) else decide (a < c)) = decide (a * 64 + b < c * 64 + d)
  by_cases h : a = c
  · rw [if_pos h]
    subst h
    by_cases h2 : b = d
    · rw [if_pos h2]; subst h2; exact (decide_eq_false (by omega)).symm
    · rw [if_neg h2]
      by_cases h3 : b < d
      · rw [decide_eq_true h3, decide_eq_true (by omega)]
      · rw [decide_eq_false h3, decide_eq_false (by omega)]
  · rw [if_neg h]
    by_cases h3 : a < c
    · rw [decide_eq_true h3, decide_eq_true (by omega)]
    · rw [decide_eq_false h3, decide_eq_false (by omega)]
theorem prs_ord {sd : Int} {cs : List Int} (hs : sd = 1 ∨ sd = -1) (hl : cs.length ≤ 30) {p p' : Int × Int} (h : p ∈ prs sd cs) (h' : p' ∈ prs sd cs) : HT.lexLt [p.1, p.2] [p'.1, p'.2] = decide (ordP p < ordP p') := by
  have rd : ∀ p ∈ prs sd cs, -31 < p.2 ∧ p.2 < 31 := fun p hp => by
    obtain ⟨j, hj, e⟩ := List.mem_map.mp hp
    rw [← e]
    exact side_abs hs (by have := List.mem_range.mp hj; omega)
  exact lex_ord (rd p h) (rd p' h')
/-- the least pair is that of the lowest column -/
theorem prs_low {sd : Int} {r : Bool} {cs : List Int} (hs : sd = 1 ∧ r = false ∨ sd = -1 ∧ r = true) (hl : cs.length ≤ 30) {i : Nat} {p : Int × Int} (h : (prs sd cs)[i]? = some p) (hm : ∀ p' ∈ prs sd cs, ordP p ≤ ordP p') :
    p = (mn cs, sd * ((low r cs : Nat) : Int)) := by
  obtain ⟨c, ec, rfl⟩ := prs_get h
  have hi : i < cs.length := (List.getElem?_eq_some_iff.mp ec).1
  have hs' : sd = 1 ∨ sd = -1 := hs.elim (fun h => .inl h.1) (fun h => .inr h.1)
  have ai := side_abs (j := i) hs' (by omega)
  have le : ∀ y ∈ cs, c ≤ y := fun y hy => by
    obtain ⟨j, hj, e⟩ := List.getElem_of_mem hy
    have aj := side_abs (j := j) hs' (by omega)
    have m := hm _ (List.mem_of_getElem? (prs_at (sd := sd) (List.getElem?_eq_getElem hj)))
    have m' : c * 64 + sd * (i : Int) ≤ cs[j] * 64 + sd * (j : Int) := m
    rw [← e]
    omega
  have em : mn cs = c := mn_eq (List.mem_of_getElem? ec) le
  have e : i = low r cs := by
    refine low_char (by rw [em]; exact ec) fun j hj => ?_
    rw [em] at hj
    have m := hm _ (List.mem_of_getElem? (prs_at (sd := sd) hj))
    have m' : c * 64 + sd * (i : Int) ≤ c * 64 + sd * (j : Int) := m
    rcases hs with ⟨rfl, rfl⟩ | ⟨rfl, rfl⟩
    · show i ≤ j; omega
    · show j ≤ i; omega
  rw [em, ← e]
theorem side_low {sd : Int} {r : Bool} {n : Nat} (hs : sd = 1 ∧ r = false ∨ sd = -1 ∧ r = true) : sd * (sd * (n : Int)) = (n : Int) := by
  rcases hs with ⟨rfl, _⟩ | ⟨rfl, _⟩ <;> omega
theorem eraseV : ∀ (ls : List Int) (j : Nat), (ls.map V.int).eraseIdx j = (ls.eraseIdx j).map V.int
  | [], _ => rfl
  | _ :: _, 0 => rfl
  | x :: ls, j + 1 => by
    show V.int x :: (ls.map V.int).eraseIdx j = V.int x :: (ls.eraseIdx j).map V.int
    rw [eraseV ls j]
end Lc

namespace Lc
open PySem PySem.Spec PyProof.Rows L2
/-! ### xs[a:c] = ys, the ends written or not -/
section
variable {prog : Program} {w : World} {A : Around} {E : Value → Shared → Prop} {s : Shared}
theorem setItem_cut {l b sl : Addr} {items new : Array Value} {n n2 : Nat} {vl vu : Value} {lo hi : Option Int} {a c : Nat} {Q : Unit → Shared → Prop}
    (e : s.heap.get? l = some { cls := .type "list", data := .seq items n })
    (e2 : s.heap.get? b = some { cls := .type "list", data := .seq new n2 }) (ne : l ≠ b) (hs : s.heap.IsSliceOf sl vl vu .none)
    (pl : IsPart vl lo) (pu : IsPart vu hi) (hbd : sliceBounds lo hi none items.size = ((a : Int), (c : Int), 1)) (hac : a ≤ c) (hc : c ≤ items.size)
    (hsz : items.size + new.size ≤ sizeLine)
    (h : Q () { s with heap := s.heap.update l (Obj.mapSeq fun xs => xs.extract 0 a ++ new ++ xs.extract c xs.size) }) :
    wpAny (model prog w) A (setItem (.ref l) (.ref sl) (.ref b)) Q E s := by
  have hl : s.heap.IsList l items := PySem.IsL.isList e
  have hb : s.heap.IsList b new := PySem.IsL.isList e2
  obtain ⟨os, hos, hcs, hds⟩ := id hs
  have hTs : s.TypeIs (.ref sl) "slice" := ⟨os, hos, hcs⟩
  have n1 : ¬ ((rawPart none == rawInt 0) = true) := Bool.false_ne_true
  have n2' : Builtin.List.listSameRef (.ref l) (.ref b) = false := by unfold Builtin.List.listSameRef; exact beq_eq_false_iff_ne.mpr ne
  have n3 : (max (a : Int) (c : Int)).toNat = c := by omega
  have n4 : ((fun xs : Array Value => xs.extract 0 a ++ new ++ xs.extract c xs.size) items).size ≤ sizeLine + 1 := by
    simp only [Array.size_append, Array.size_extract]; omega
  unfold setItem
  try with_reducible refine wpAny_holding ?_
  first | refine wpAny_bind (wpAny_pure ?_) | skip
  refine wpAny_bind (wpAny_sequenceKey hl.typeIs (by decide) (wpAny_bind (wpAny_callSpecial?_slot (name := Str.ofString "__setitem__") hl.typeIs slot_list_setitem (wpAny_call_entry slot_list_setitem hl.typeIs entry_list_setitem ?_ (args_list_setitem _ _ _)))))
  show wpAny _ _ (Builtin.List.listSubscript? (.ref sl) >>= _) _ _ s
  refine wpAny_bind ?_
  unfold Builtin.List.listSubscript?
  refine wpAny_bind (wpAny_specialOf hTs slice_no_index ?_)
  simp only [Option.isNone_none, if_true]
  refine wpAny_pure ?_
  show wpAny _ _ (typeOf (.ref sl) >>= _) _ _ s
  refine wpAny_bind (wpAny_typeOf hTs ?_)
  rw [if_neg (by decide)]
  rw [listSliceParts_eq]
  refine wpAny_bind (wpAny_bind (wpAny_field hos hds (x := .none) rfl (wpAny_bind (wpAny_listPart .none ?_)))); rw [if_neg n1]
  refine wpAny_bind (wpAny_field hos hds (x := vl) rfl (wpAny_bind (wpAny_listPart pl (wpAny_bind (wpAny_field hos hds (x := vu) rfl (wpAny_bind (wpAny_listPart pu (wpAny_pure ?_))))))))
  simp only [n2', Bool.false_eq_true, if_false]
  refine wpAny_bind (m := Builtin.List.listAllItems (.ref b) _) ?_
  unfold Builtin.List.listAllItems
  refine wpAny_bind (wpAny_typeOf hb.typeIs ?_)
  simp only [beq_self_eq_true, Bool.true_or, if_true]
  unfold Builtin.List.listItems
  refine wpAny_bind (wpAny_seqItems e2 rfl (wpAny_pure (wpAny_bind (wpAny_bind (wpAny_seqItems e rfl (wpAny_pure ?_))))))
  refine wpAny_bind (wpAny_of_eq ((sliceIndices_raw lo hi none items.size (by simp)).trans (congrArg pure hbd)) ?_)
  show wpAny _ _ (if ((1 : Int) == 1) = true then _ else _) _ _ s
  rw [if_pos (by decide)]
  refine wpAny_bind (wpAny_rule ?_)
  simp only [notLongL hsz, Bool.false_eq_true, if_false]
  first | refine wpAny_bind (wpAny_pure ?_) | skip
  show wpAny _ _ (updateSeq l (fun xs => xs.extract 0 ((a : Int)).toNat ++ new ++ xs.extract (max (a : Int) (c : Int)).toNat xs.size) >>= _) _ _ s
  rw [n3, Int.toNat_natCast]
  refine wpAny_bind (wpAny_updateSeq (hz := Nat.le_trans (Nat.le_add_right _ _) hsz) (_hz' := n4) e rfl (wpAny_bind (wpAny_letGo ?_)))
  first
    | exact wpAny_bind (wpAny_pure (wpAny_pure ⟨.none, rfl, wpAny_pure h⟩))
    | exact wpAny_pure ⟨.none, rfl, wpAny_pure h⟩
end
section
variable {X : Cx}
def gCut (to : TE) (tl th : TO) : TG := fun v σ H Q => to σ H fun x H1 => tl σ H1 fun lo H2 => th σ H2 fun hi H3 => ∃ (p b : Addr) (xs ys : List V) (a c : Nat), x = .ref p ∧ v = .ref b ∧ H3 p = some (.lst xs) ∧ H3 b = some (.lst ys) ∧ p ≠ b ∧
  sliceBounds lo hi none xs.length = ((a : Int), (c : Int), 1) ∧ a ≤ c ∧ c ≤ xs.length ∧ xs.length + ys.length ≤ sizeLine ∧ Q σ (upd H3 p (.lst (xs.take a ++ ys ++ xs.drop c)))
theorem pg_cut {o : Expr} {lo hi : Option Expr} {to : TE} {tl th : TO} {p2 pos : Pos} (ho : PE X o to) (hl : PO X lo tl) (hu : PO X hi th)
    (ha : ∀ v, assign (.Subscript o (.Slice lo hi none p2) pos) X.env v = (holding [v] (eval o X.env) >>= fun x => holding [v, x] (eval (.Slice lo hi none p2) X.env) >>= fun y =>
      standAt pos >>= fun _ => holding [v, x, y] (setItem x y v) >>= fun _ => release [y, v, x] []) := by intro _; rfl) : PG X (.Subscript o (.Slice lo hi none p2) pos) (gCut to tl th) := by
  refine ⟨fun pins s σ H v u Q I r h => ?_⟩
  rw [ha]
  refine wpAny_bind (wpAny_holding (thn (ho.run pins s σ H _ I h) fun ov s1 ⟨x, H1, I1, r1, q1⟩ => wpAny_bind (wpAny_holding ?_)))
  refine wpAny_Slice (thn (hl.run pins s1 σ H1 _ I1 q1) fun vl s2 ⟨l, H2, I2, pl, q2⟩ => thn (hu.run pins s2 σ H2 _ I2 q2) fun vu s3 ⟨t, H3, I3, pu, q3⟩ => ?_)
  rw [evalPart_none]
  refine wpAny_pure (wpAny_bind (wpAny_standAt (wpAny_bind (wpAny_holding ?_))))
  obtain ⟨p, b, xs, ys, a, c, rfl, rfl, hp, hb, ne, hbd, hac, hc, hz, q⟩ := q3
  have I4 : Inv X pins σ H3 { s3 with heap := s3.heap.push { cls := .type "slice", data := .fields #[vl, vu, .none] } } :=
    I3.kept (t' := s3.toks) fun b ob q => Heap.get?_push_of_some _ q
  obtain rfl : ov = Value.ref p := r1
  obtain rfl : u = Value.ref b := r
  obtain ⟨z1, its1, m1, r1, l1, g1⟩ := I4.lstM hp
  obtain ⟨z2, its2, m2, r2, l2, g2⟩ := I4.lstM hb
  refine setItem_cut (a := a) (c := c) g1 g2 ne (Heap.IsSliceOf.new ..) pl pu (by rw [List.size_toArray, ← l1]; exact hbd) hac (by rw [List.size_toArray, ← l1]; exact hc) (by rw [List.size_toArray, List.size_toArray, ← l1, ← l2]; exact hz) ?_
  refine wpAny_release ⟨σ, _, I4.lset (its' := its1.take a ++ its2 ++ its1.drop c) (t' := s3.toks) hp g1 (splice_eq its1 its2 a c) (Vals.append (Vals.append (r1.take _) r2) (r1.drop _)) ?_, q⟩
  rw [List.length_append, List.length_append, List.length_take, List.length_drop]
  omega
end
theorem bounds_from {k n : Nat} (h : k ≤ n) : sliceBounds (some (k : Int)) none none n = ((k : Int), (n : Int), 1) := by
  simp only [sliceBounds, Option.getD_none]
  have h1 : ¬ ((k : Int) < 0) := by omega
  simp only [h1, if_false, show (1 : Int) > 0 by decide, if_true]
  congr 1
  omega
theorem bounds_min {k n : Nat} : sliceBounds (some (k : Int)) none none n = (((min k n : Nat) : Int), (n : Int), 1) := by
  simp only [sliceBounds, Option.getD_none]
  have h1 : ¬ ((k : Int) < 0) := by omega
  simp only [h1, if_false, show (1 : Int) > 0 by decide, if_true]
  congr 1
  omega
end Lc

namespace Lc
open PySem PySem.Spec PyProof.Rows L2
/-- the cards among the first n in a column -/
def inCol (ps : List (Nat × Int)) (k n : Nat) : List Nat := (List.range n).filter fun j => decide ((ps.map (·.1))[j]? = some k)
theorem inCol_succ {ps : List (Nat × Int)} {k n : Nat} {p : Nat × Int} (h : ps[n]? = some p) : inCol ps k (n + 1) = if p.1 = k then inCol ps k n ++ [n] else inCol ps k n := by
  unfold inCol
  rw [List.range_succ, List.filter_append]
  have e : (ps.map (·.1))[n]? = some p.1 := by rw [List.getElem?_map, h]; rfl
  by_cases q : p.1 = k
  · rw [if_pos q]
    simp [e, q]
  · rw [if_neg q]
    simp [e, q]
theorem filter_two {α : Type} (p q : α → Bool) (d : ∀ x, p x = true → q x = false) : ∀ l : List α, (l.filter p ++ l.filter q).Perm (l.filter fun x => p x || q x)
  | [] => List.Perm.refl _
  | x :: l => by
    have ih := filter_two p q d l
    cases hp : p x with
    | true =>
      have hq := d x hp
      rw [List.filter_cons_of_pos hp, List.filter_cons_of_neg (by simp [hq]), List.filter_cons_of_pos (by simp [hp])]
      exact ih.cons x
    | false =>
      cases hq : q x with
      | true =>
        rw [List.filter_cons_of_neg (by simp [hp]), List.filter_cons_of_pos hq, List.filter_cons_of_pos (by simp [hq])]
        exact (List.perm_middle).trans (ih.cons x)
      | false =>
        rw [List.filter_cons_of_neg (by simp [hp]), List.filter_cons_of_neg (by simp [hq]), List.filter_cons_of_neg (by simp [hp, hq])]
        exact ih
/-- the columns one behind another -/
def cols (ps : List (Nat × Int)) (n : Nat) : Nat → List Nat
  | 0 => []
  | m + 1 => cols ps n m ++ inCol ps m n
def colB (ps : List (Nat × Int)) (m j : Nat) : Bool := match (ps.map (·.1))[j]? with
  | some c => decide (c < m)
  | none => false
theorem cols_perm0 (ps : List (Nat × Int)) (n : Nat) : ∀ m, (cols ps n m).Perm ((List.range n).filter (colB ps m))
  | 0 => by
    have : ((List.range n).filter (colB ps 0)) = [] := by
      rw [List.filter_eq_nil_iff]
      intro j _
      unfold colB
      cases (ps.map (·.1))[j]? <;> simp
    rw [this]
    exact List.Perm.refl _
  | m + 1 => by
    have ih := cols_perm0 ps n m
    refine (List.Perm.append_right _ ih).trans ?_
    refine (filter_two _ _ (fun j hj => ?_) (List.range n)).trans ?_
    · unfold colB at hj
      cases h : (ps.map (·.1))[j]? with
      | none => rw [h] at hj; cases hj
      | some c =>
        rw [h] at hj
        have : c < m := of_decide_eq_true hj
        simp
        omega
    · refine List.Perm.of_eq (List.filter_congr fun j _ => ?_)
      unfold colB
      cases h : (ps.map (·.1))[j]? with
      | none => simp
      | some c =>
        simp only [Option.some.injEq]
        by_cases h1 : c < m
        · simp [h1, Nat.lt_succ_of_lt h1]
        · by_cases h2 : c = m
          · simp [h2]
          · have : ¬ c < m + 1 := by omega
            simp [h1, h2, this]
theorem cols_len (ps : List (Nat × Int)) (n : Nat) : ∀ m, (cols ps n m).length ≤ n := fun m => by
  rw [(cols_perm0 ps n m).length_eq]
  have := List.length_filter_le (colB ps m) (List.range n)
  rw [List.length_range] at this
  exact this
theorem cols_all {ps : List (Nat × Int)} {m : Nat} (h : ∀ p ∈ ps, p.1 < m) : (cols ps ps.length m).Perm (List.range ps.length) := by
  refine (cols_perm0 ps ps.length m).trans (List.Perm.of_eq ?_)
  rw [List.filter_eq_self]
  intro j hj
  have hj' := List.mem_range.mp hj
  unfold colB
  rw [List.getElem?_map, List.getElem?_eq_getElem hj']
  exact decide_eq_true (h _ (List.getElem_mem hj'))
theorem fold_lt (r : Bool) (n : Nat) : ∀ (hs : List Int) (s : List (Nat × Int) × List Int), s.2 ≠ [] → s.2.length = n → (∀ p ∈ s.1, p.1 < n) → ∀ p ∈ (hs.foldl (put r) s).1, p.1 < n
  | [], s, _, _, h => h
  | x :: hs, s, hne, hl, h => fold_lt r n hs (put r s x) (put_ne hne) (by show (s.2.set _ _).length = n; rw [List.length_set]; exact hl) fun p hp => by
    have hp' : p ∈ s.1 ++ [(low r s.2, mn s.2)] := hp
    rcases List.mem_append.mp hp' with hp' | hp'
    · exact h p hp'
    · rw [List.mem_singleton.mp hp', ← hl]
      exact low_lt hne
theorem play_lt {r : Bool} {cs hs : List Int} (h : cs ≠ []) : ∀ p ∈ (play r cs hs).1, p.1 < cs.length := fold_lt r cs.length hs ([], cs) h rfl fun p h => by cases h
def nat2 (l : List Nat) : List Int := l.map fun j => ((j : Nat) : Int)
theorem nat2_append (a b : List Nat) : nat2 (a ++ b) = nat2 a ++ nat2 b := List.map_append ..
theorem nat2_small {l : List Nat} (h : ∀ j ∈ l, j ≤ 1000) : ∀ n ∈ nat2 l, n.natAbs < 10 ^ 90 := fun n hn => by
  obtain ⟨j, hj, rfl⟩ := List.mem_map.mp hn
  exact nat_pow_big (by omega) (by have := h j hj; omega)
theorem range_sorted (n : Nat) : Sorted (nat2 (List.range n)) := by
  unfold nat2 Sorted
  rw [List.pairwise_map]
  exact (List.pairwise_lt_range (n := n)).imp fun h => by omega
end Lc

namespace Lc
open PySem PySem.Spec PyProof.Rows L2
/-- a comprehension over zip of two lists of one length -/
theorem lc_zip {K : PySem.W.Frag} {a b D : Addr} {xs ys : List V} {g : TG} {tt : TT} {te : TE} {vs : List Nat} {σ : L2.St} {H0 : Hp} {Qd : Hp → Prop}
    (hle : xs.length = ys.length) (Pv : Nat → Hp → Prop) (h0 : Pv 0 (upd H0 D (.lst []))) (hl : ∀ i H, i ≤ xs.length → Pv i H → SqL K H a xs ∧ SqL K H b ys)
    (hs : ∀ i x y H T, xs[i]? = some x → ys[i]? = some y → Pv i H → H T = none → g (.ref T) (wipe σ vs) (upd H T (.tup [x, y])) fun σ2 H2 =>
      wipe σ2 vs = wipe σ vs ∧ tt σ2 H2 fun b H3 => if b = true then te σ2 H3 fun y H4 => ∃ acc, H4 D = some (.lst acc) ∧ acc.length < sizeLine ∧ Pv (i + 1) (upd H4 D (.lst (acc ++ [y]))) else Pv (i + 1) H3)
    (hd : ∀ H, Pv xs.length H → Qd H) :
    ∃ W : Nat → Nat → Hp → Prop, (∃ m, W 0 m (upd H0 D (.lst []))) ∧ ∀ i m H, W i m H →
      (((Itz K a b).stop i H ∧ Qd H) ∨ ((Itz K a b).go i H ∧ ∃ Nx : Hp → Prop, (∀ H', Nx H' → ∃ m', m' < m ∧ W (i + 1) m' H') ∧
        ∀ x H', (Itz K a b).yld i H x H' → g x (wipe σ vs) H' fun σ2 H2 => wipe σ2 vs = wipe σ vs ∧ tt σ2 H2 fun b H3 =>
          if b = true then te σ2 H3 fun y H4 => ∃ acc, H4 D = some (.lst acc) ∧ acc.length < sizeLine ∧ Nx (upd H4 D (.lst (acc ++ [y]))) else Nx H3)) := by
  refine ⟨fun i m H => m + i = xs.length ∧ Pv i H, ⟨xs.length, rfl, h0⟩, fun i m H hW => ?_⟩
  obtain ⟨em, p⟩ := hW
  have q := hl i H (by omega) p
  by_cases h : i < xs.length
  · refine .inr ⟨⟨xs, ys, xs[i], ys[i]'(by omega), q.1, q.2, List.getElem?_eq_getElem h, List.getElem?_eq_getElem (by omega)⟩, Pv (i + 1), fun H' p' => ⟨m - 1, by omega, by omega, p'⟩, fun v H' y => ?_⟩
    obtain ⟨T, x, z, e1, nT, e2, hx, hy⟩ := y
    subst e1
    subst e2
    exact hs i x z H T (hx xs q.1) (hy ys q.2) p nT
  · have e : i = xs.length := by omega
    subst e
    exact .inl ⟨⟨xs, ys, q.1, q.2, .inl (Nat.le_refl _)⟩, hd H p⟩
/-! changed lists -/
def insAt (l : List Int) (i : Nat) (x : Int) : List Int := l.take i ++ [x] ++ l.drop i
def delAt (l : List Int) (i : Nat) : List Int := l.take i ++ l.drop (i + 1)
def grow (a b : List Int) : List Int := (a.zip b).map fun p => p.2 - p.1
theorem insAt_len {l : List Int} {i : Nat} {x : Int} (h : i ≤ l.length) : (insAt l i x).length = l.length + 1 := by
  unfold insAt
  simp only [List.length_append, List.length_take, List.length_drop, List.length_cons, List.length_nil]
  omega
theorem delAt_len {l : List Int} {i : Nat} (h : i < l.length) : (delAt l i).length = l.length - 1 := by
  unfold delAt
  simp only [List.length_append, List.length_take, List.length_drop]
  omega
theorem mem_insAt {l : List Int} {i : Nat} {x y : Int} (h : y ∈ insAt l i x) : y = x ∨ y ∈ l := by
  unfold insAt at h
  rcases List.mem_append.mp h with h | h
  · rcases List.mem_append.mp h with h | h
    · exact .inr (List.mem_of_mem_take h)
    · exact .inl (List.mem_singleton.mp h)
  · exact .inr (List.mem_of_mem_drop h)
theorem mem_delAt {l : List Int} {i : Nat} {y : Int} (h : y ∈ delAt l i) : y ∈ l := by
  unfold delAt at h
  rcases List.mem_append.mp h with h | h
  · exact List.mem_of_mem_take h
  · exact List.mem_of_mem_drop h
theorem grow_len {a b : List Int} (h : a.length = b.length) : (grow a b).length = a.length := by
  unfold grow
  rw [List.length_map, List.length_zip]
  omega
theorem grow_take {a b : List Int} {i : Nat} {x y : Int} (h1 : a[i]? = some x) (h2 : b[i]? = some y) : (grow a b)[i]? = some (y - x) := by
  unfold grow
  rw [List.getElem?_map, (List.getElem?_zip_eq_some (z := (x, y))).mpr ⟨h1, h2⟩]
  rfl
def effIns (cs hs : List Int) (i : Nat) (h : Int) : List Int := grow (tops cs hs) (delAt (tops cs (insAt hs i h)) i)
def effRem (cs hs : List Int) (i : Nat) : List Int := grow (delAt (tops cs hs) i) (tops cs (delAt hs i))
def effMov (cs hs : List Int) (i j : Nat) (x : Int) : List Int := grow (delAt (tops cs hs) i) (delAt (tops cs (insAt (delAt hs i) j x)) j)
def effStr (cs hs : List Int) (i : Nat) (h : Int) : List Int := grow (tops cs hs) (tops cs (insAt (delAt hs i) i h))
def effExc (cs hs : List Int) (i : Nat) (x : Int) : List Int := grow (tops cs hs) (tops cs (insAt (delAt hs i) (i + 1) x))
end Lc

namespace Lc
open PySem PySem.Spec PyProof.Rows L2
/-! one column -/
def S (l : List Int) (k : Nat) : Int := (l.take k).sum
theorem mn_one (c : Int) : mn [c] = c := by
  have := (mn_spec (cs := [c]) (by simp)).1
  simpa using this
theorem low_one (r : Bool) (c : Int) : low r [c] = 0 := by
  have := low_lt (r := r) (cs := [c]) (by simp)
  simp only [List.length_cons, List.length_nil] at this
  omega
theorem put_one (r : Bool) (t : List (Nat × Int)) (c h : Int) : (put r (t, [c]) h).2 = [c + h] := by
  unfold put
  simp only [mn_one, low_one, List.set_cons_zero]
theorem fold_one (r : Bool) : ∀ (hs : List Int) (t : List (Nat × Int)) (c : Int), (hs.foldl (put r) (t, [c])).2 = [c + hs.sum]
  | [], t, c => by simp
  | h :: hs, t, c => by
    have e : put r (t, [c]) h = ((put r (t, [c]) h).1, [c + h]) := Prod.ext rfl (put_one r t c h)
    rw [List.foldl_cons, e, fold_one r hs, List.sum_cons, Int.add_assoc]
theorem tops_one {c : Int} {hs : List Int} {k : Nat} (h : k < hs.length) : (tops [c] hs)[k]? = some (c + S hs k) := by
  unfold tops
  rw [List.getElem?_map, play_at (List.getElem?_eq_getElem h)]
  show some (mn (play false [c] (hs.take k)).2) = _
  unfold play
  rw [fold_one, mn_one]
  rfl
theorem S_ins {l : List Int} {i k : Nat} {x : Int} (h : i ≤ l.length) : S (insAt l i x) k = if k ≤ i then S l k else S l (k - 1) + x := by
  unfold S insAt
  split
  · rw [List.append_assoc, List.take_append_of_le_length (by rw [List.length_take]; omega), List.take_take, Nat.min_eq_left (by omega)]
  · rename_i hk
    have e1 : k - (l.take i).length = (k - 1 - i) + 1 := by rw [List.length_take]; omega
    rw [List.append_assoc, List.take_append, e1, List.take_of_length_le (by rw [List.length_take]; omega), List.singleton_append, List.take_succ_cons, List.sum_append, List.sum_cons]
    have e2 : l.take (k - 1) = l.take i ++ (l.drop i).take (k - 1 - i) := by
      have : k - 1 = i + (k - 1 - i) := by omega
      rw [this, List.take_add]
      congr 2
      omega
    rw [e2, List.sum_append]
    omega
theorem S_del {l : List Int} {i k : Nat} {x : Int} (h : l[i]? = some x) : S (delAt l i) k = if k ≤ i then S l k else S l (k + 1) - x := by
  have hi : i < l.length := (List.getElem?_eq_some_iff.mp h).1
  unfold S delAt
  split
  · rw [List.take_append_of_le_length (by rw [List.length_take]; omega), List.take_take, Nat.min_eq_left (by omega)]
  · have e1 : k - (l.take i).length = k - i := by rw [List.length_take]; omega
    rw [List.take_append, e1, List.take_of_length_le (by rw [List.length_take]; omega), List.sum_append]
    have e2 : l.take (k + 1) = l.take i ++ ([x] ++ (l.drop (i + 1)).take (k - i)) := by
      have : k + 1 = i + ((k - i) + 1) := by omega
      rw [this, List.take_add, List.drop_eq_getElem_cons hi, List.take_succ_cons]
      have : l[i] = x := by rw [List.getElem?_eq_getElem hi] at h; exact Option.some.inj h
      rw [this]
      have : i + (k - i + 1) - i = k - i + 1 := by omega
      rfl
    rw [e2, List.sum_append, List.sum_append, List.sum_singleton]
    omega
theorem S_succ {l : List Int} {i : Nat} {x : Int} (h : l[i]? = some x) : S l (i + 1) = S l i + x := by
  unfold S
  rw [List.take_add_one, h, List.sum_append]
  simp
theorem del_get {l : List Int} {i k : Nat} (h : i < l.length) : (delAt l i)[k]? = if k < i then l[k]? else l[k + 1]? := by
  unfold delAt
  split
  · rename_i hk
    rw [List.getElem?_append_left (by rw [List.length_take]; omega), List.getElem?_take_of_lt hk]
  · rename_i hk
    have e1 : k - (l.take i).length = k - i := by rw [List.length_take]; omega
    rw [List.getElem?_append_right (by rw [List.length_take]; omega), e1, List.getElem?_drop]
    congr 1
    omega
theorem grow_eq {a b : List Int} {n : Nat} {g : Nat → Int} (ha : a.length = n) (hb : b.length = n) (h : ∀ k : Nat, k < n → ∃ u v : Int, a[k]? = some u ∧ b[k]? = some v ∧ v - u = g k) : grow a b = (List.range n).map g := by
  apply List.ext_getElem?
  intro k
  by_cases hk : k < n
  · obtain ⟨u, v, e1, e2, e3⟩ := h k hk
    rw [grow_take e1 e2, List.getElem?_map, List.getElem?_range hk, e3]
    rfl
  · rw [List.getElem?_eq_none (by rw [grow_len (by omega)]; omega), List.getElem?_eq_none (by rw [List.length_map, List.length_range]; omega)]
def b2 (p : Bool) : Int := if p = true then 1 else 0
def skip (s k : Nat) : Nat := if k < s then k else k + 1
theorem filter_skip (s : Nat) : ∀ n, (List.range n).filter (fun k => decide (k ≠ s)) = if n ≤ s then List.range n else (List.range (n - 1)).map (skip s)
  | 0 => by simp
  | n + 1 => by
    rw [List.range_succ, List.filter_append, filter_skip s n]
    by_cases h1 : n + 1 ≤ s
    · rw [if_pos (by omega), if_pos h1]
      have : (n ≠ s) := by omega
      simp [this]
    · by_cases h2 : n = s
      · subst h2
        rw [if_pos (Nat.le_refl _), if_neg h1]
        have : (List.range (n + 1 - 1)).map (skip n) = List.range n := by
          show (List.range n).map (skip n) = List.range n
          conv => rhs; rw [← List.map_id (List.range n)]
          refine List.map_congr_left fun k hk => ?_
          have := List.mem_range.mp hk
          unfold skip
          rw [if_pos this]
          rfl
        rw [this]
        simp
      · rw [if_neg (by omega), if_neg h1]
        have e : n + 1 - 1 = (n - 1) + 1 := by omega
        rw [e, List.range_succ, List.map_append]
        have e2 : skip s (n - 1) = n := by unfold skip; rw [if_neg (by omega)]; omega
        simp [h2, e2]
/-! the effects in one column -/
theorem one_ins {c x : Int} {hs : List Int} {i : Nat} (h : i ≤ hs.length) : effIns [c] hs i x = (List.range hs.length).map fun k => x * b2 (decide (i ≤ k)) := by
  have li := insAt_len (x := x) h
  refine grow_eq (by rw [tops_len]) (by rw [delAt_len (by rw [tops_len]; omega), tops_len]; omega) fun k hk => ?_
  rw [del_get (by rw [tops_len]; omega), tops_one hk]
  by_cases hki : k < i
  · rw [if_pos hki, tops_one (by omega), S_ins h, if_pos (by omega), decide_eq_false (by omega)]
    exact ⟨_, _, rfl, rfl, by simp [b2]⟩
  · rw [if_neg hki, tops_one (by omega), S_ins h, if_neg (by omega), decide_eq_true (by omega)]
    exact ⟨_, _, rfl, rfl, by simp [b2]; omega⟩
theorem one_rem {c x : Int} {hs : List Int} {i : Nat} (h : hs[i]? = some x) : effRem [c] hs i = (List.range (hs.length - 1)).map fun k => 0 - x * b2 (decide (i < skip i k)) := by
  have hi : i < hs.length := (List.getElem?_eq_some_iff.mp h).1
  have ld := delAt_len hi
  refine grow_eq (by rw [delAt_len (by rw [tops_len]; omega), tops_len]) (by rw [tops_len]; omega) fun k hk => ?_
  rw [del_get (by rw [tops_len]; omega), tops_one (hs := delAt hs i) (by omega), S_del h]
  by_cases hki : k < i
  · rw [if_pos hki, tops_one (by omega), if_pos (by omega), decide_eq_false (by unfold skip; rw [if_pos hki]; omega)]
    exact ⟨_, _, rfl, rfl, by simp [b2]⟩
  · rw [if_neg hki, tops_one (by omega), decide_eq_true (by unfold skip; rw [if_neg hki]; omega)]
    by_cases hk2 : k ≤ i
    · have : k = i := by omega
      subst this
      rw [if_pos (by omega), S_succ h]
      exact ⟨_, _, rfl, rfl, by simp [b2]; omega⟩
    · rw [if_neg hk2]
      exact ⟨_, _, rfl, rfl, by simp [b2]; omega⟩
theorem one_str {c x y : Int} {hs : List Int} {i : Nat} (h : hs[i]? = some y) : effStr [c] hs i x = (List.range hs.length).map fun k => (x - y) * b2 (decide (i < k)) := by
  have hi : i < hs.length := (List.getElem?_eq_some_iff.mp h).1
  have ld := delAt_len hi
  have li := insAt_len (l := delAt hs i) (i := i) (x := x) (by omega)
  refine grow_eq (by rw [tops_len]) (by rw [tops_len]; omega) fun k hk => ?_
  rw [tops_one hk, tops_one (by omega), S_ins (by omega), S_del h, S_del h]
  by_cases hki : k ≤ i
  · rw [if_pos hki, if_pos hki, decide_eq_false (by omega)]
    exact ⟨_, _, rfl, rfl, by simp [b2]⟩
  · rw [if_neg hki, decide_eq_true (by omega)]
    by_cases hk2 : k - 1 ≤ i
    · have : k = i + 1 := by omega
      subst this
      rw [if_pos hk2, Nat.add_sub_cancel, S_succ h]
      exact ⟨_, _, rfl, rfl, by simp [b2]; omega⟩
    · rw [if_neg hk2, show k - 1 + 1 = k by omega]
      exact ⟨_, _, rfl, rfl, by simp [b2]; omega⟩
theorem one_exc {c x y : Int} {hs : List Int} {i : Nat} (h : hs[i]? = some x) (h2 : hs[i + 1]? = some y) : effExc [c] hs i x = (List.range hs.length).map fun k => (y - x) * b2 (decide (k = i + 1)) := by
  have hi : i + 1 < hs.length := (List.getElem?_eq_some_iff.mp h2).1
  have ld := delAt_len (l := hs) (i := i) (by omega)
  have li := insAt_len (l := delAt hs i) (i := i + 1) (x := x) (by omega)
  refine grow_eq (by rw [tops_len]) (by rw [tops_len]; omega) fun k hk => ?_
  rw [tops_one hk, tops_one (by omega), S_ins (by omega), S_del h, S_del h]
  by_cases hk1 : k ≤ i
  · rw [if_pos (by omega), if_pos hk1, decide_eq_false (by omega)]
    exact ⟨_, _, rfl, rfl, by simp [b2]⟩
  · by_cases hk2 : k = i + 1
    · subst hk2
      rw [if_pos (by omega), if_neg hk1, S_succ h2, S_succ h, decide_eq_true rfl]
      exact ⟨_, _, rfl, rfl, by simp [b2]; omega⟩
    · rw [if_neg (by omega), if_neg (by omega), show k - 1 + 1 = k by omega, decide_eq_false (by omega)]
      exact ⟨_, _, rfl, rfl, by simp [b2]⟩
theorem one_mov {c x : Int} {hs : List Int} {i j : Nat} (h : hs[i]? = some x) (hj : j < hs.length) : effMov [c] hs i j x = (List.range (hs.length - 1)).map fun k => x * (b2 (decide (j ≤ skip i k ∧ skip i k < i)) - b2 (decide (i < skip i k ∧ skip i k ≤ j))) := by
  have hi : i < hs.length := (List.getElem?_eq_some_iff.mp h).1
  have ld := delAt_len hi
  have li := insAt_len (l := delAt hs i) (i := j) (x := x) (by omega)
  refine grow_eq (by rw [delAt_len (by rw [tops_len]; omega), tops_len]) (by rw [delAt_len (by rw [tops_len]; omega), tops_len]; omega) fun k hk => ?_
  rw [del_get (by rw [tops_len]; omega), del_get (by rw [tops_len]; omega)]
  have e1 : (if k < i then (tops [c] hs)[k]? else (tops [c] hs)[k + 1]?) = some (c + S (delAt hs i) k + (if k < i then 0 else x)) := by
    rw [S_del h]
    by_cases hki : k < i
    · rw [if_pos hki, if_pos hki, tops_one (by omega), if_pos (by omega)]
      simp
    · rw [if_neg hki, if_neg hki, tops_one (by omega)]
      by_cases hk2 : k ≤ i
      · have : k = i := by omega
        subst this
        rw [if_pos (by omega), S_succ h]
        congr 1; omega
      · rw [if_neg hk2]
        congr 1; omega
  have e2 : (if k < j then (tops [c] (insAt (delAt hs i) j x))[k]? else (tops [c] (insAt (delAt hs i) j x))[k + 1]?) = some (c + S (delAt hs i) k + (if k < j then 0 else x)) := by
    by_cases hkj : k < j
    · rw [if_pos hkj, if_pos hkj, tops_one (by omega), S_ins (by omega), if_pos (by omega)]
      simp
    · rw [if_neg hkj, if_neg hkj, tops_one (by omega), S_ins (by omega), if_neg (by omega), Nat.add_sub_cancel]
      congr 1; omega
  refine ⟨_, _, e1, e2, ?_⟩
  unfold skip b2
  by_cases hki : k < i <;> by_cases hkj : k < j
  · simp only [if_pos hki, if_pos hkj]
    rw [if_neg (by simp; omega), if_neg (by simp; omega)]
    omega
  · simp only [if_pos hki, if_neg hkj]
    rw [if_pos (by simp; omega), if_neg (by simp; omega)]
    omega
  · simp only [if_neg hki, if_pos hkj]
    rw [if_neg (by simp; omega), if_pos (by simp; omega)]
    omega
  · simp only [if_neg hki, if_neg hkj]
    rw [if_neg (by simp; omega), if_neg (by simp; omega)]
    omega
/-! more equal columns than cards -/
theorem fold_wide (r : Bool) (L : Int) : ∀ (hs : List Int) (t : List (Nat × Int)) (cs : List Int), (∀ h ∈ hs, 1 ≤ h) → (∀ c ∈ cs, L ≤ c) → hs.length ≤ cs.count L →
    ((hs.foldl (put r) (t, cs)).1.map (·.2)) = t.map (·.2) ++ List.replicate hs.length L
  | [], t, cs, _, _, _ => by simp
  | h :: hs, t, cs, hp, hc, hn => by
    have hmem : L ∈ cs := List.count_pos_iff.mp (by rw [List.length_cons] at hn; omega)
    have hne : cs ≠ [] := fun e => by rw [e] at hmem; cases hmem
    have em : mn cs = L := Int.le_antisymm ((mn_spec hne).2 L hmem) (hc _ (mn_spec hne).1)
    have hl := low_lt (r := r) hne
    have hg := low_get (r := r) hne
    rw [List.foldl_cons]
    show ((hs.foldl (put r) (t ++ [(low r cs, mn cs)], cs.set (low r cs) (mn cs + h))).1.map (·.2)) = _
    have h1 := hp h List.mem_cons_self
    rw [fold_wide r L hs _ _ (fun x hx => hp x (List.mem_cons_of_mem _ hx)) (fun x hx => ?_) ?_, em]
    · rw [List.map_append, List.append_assoc, List.length_cons, List.replicate_succ]
      rfl
    · rw [List.count_set hl]
      rw [List.length_cons] at hn
      split <;> split <;> omega
    · rcases List.mem_or_eq_of_mem_set hx with hx | rfl
      · exact hc x hx
      · omega
theorem tops_wide {L : Int} {n : Nat} {hs : List Int} (h : hs.length ≤ n) (hp : ∀ x ∈ hs, 1 ≤ x) : tops (List.replicate n L) hs = List.replicate hs.length L := by
  have := fold_wide false L hs [] (List.replicate n L) hp (fun c hc => by rw [(List.mem_replicate.mp hc).2]; exact Int.le_refl _) (by rw [List.count_replicate_self]; exact h)
  simpa [tops, play] using this
theorem delAt_rep {n i : Nat} {L : Int} (h : i < n) : delAt (List.replicate n L) i = List.replicate (n - 1) L := by
  unfold delAt
  rw [List.take_replicate, List.drop_replicate, List.replicate_append_replicate]
  congr 1
  omega
theorem grow_rep {n : Nat} {L : Int} : grow (List.replicate n L) (List.replicate n L) = List.replicate n 0 := by
  unfold grow
  rw [List.zip_replicate', List.map_replicate]
  simp
theorem wide_ins {L x : Int} {n i : Nat} {hs : List Int} (hn : hs.length + 1 ≤ n) (hp : ∀ x ∈ hs, 1 ≤ x) (hi : i ≤ hs.length) (hx : 1 ≤ x) : effIns (List.replicate n L) hs i x = List.replicate hs.length 0 := by
  have li := insAt_len (x := x) hi
  unfold effIns
  rw [tops_wide (by omega) hp, tops_wide (by omega) (fun y hy => (mem_insAt hy).elim (fun e => by omega) (hp y)), li, delAt_rep (by omega), Nat.add_sub_cancel, grow_rep]
theorem wide_rem {L : Int} {n i : Nat} {hs : List Int} (hn : hs.length + 1 ≤ n) (hp : ∀ x ∈ hs, 1 ≤ x) (hi : i < hs.length) : effRem (List.replicate n L) hs i = List.replicate (hs.length - 1) 0 := by
  have ld := delAt_len hi
  unfold effRem
  rw [tops_wide (by omega) hp, tops_wide (by omega) (fun y hy => hp y (mem_delAt hy)), ld, delAt_rep (by omega), grow_rep]
theorem mov_mem {x y : Int} {i j : Nat} {hs : List Int} (h : hs[i]? = some x) (hy : y ∈ insAt (delAt hs i) j x) : y ∈ hs :=
  (mem_insAt hy).elim (fun e => e ▸ List.mem_of_getElem? h) mem_delAt
theorem wide_mov {L x : Int} {n i j : Nat} {hs : List Int} (hn : hs.length + 1 ≤ n) (hp : ∀ x ∈ hs, 1 ≤ x) (h : hs[i]? = some x) (hj : j < hs.length) : effMov (List.replicate n L) hs i j x = List.replicate (hs.length - 1) 0 := by
  have hi : i < hs.length := (List.getElem?_eq_some_iff.mp h).1
  have ld := delAt_len hi
  have li := insAt_len (l := delAt hs i) (i := j) (x := x) (by omega)
  unfold effMov
  rw [tops_wide (by omega) hp, tops_wide (by omega) (fun y hy => hp y (mov_mem h hy)), li, ld, delAt_rep (by omega), delAt_rep (by omega), Nat.add_sub_cancel, grow_rep]
theorem wide_str {L x : Int} {n i : Nat} {hs : List Int} (hn : hs.length + 1 ≤ n) (hp : ∀ x ∈ hs, 1 ≤ x) (hi : i < hs.length) (hx : 1 ≤ x) : effStr (List.replicate n L) hs i x = List.replicate hs.length 0 := by
  have ld := delAt_len hi
  have li := insAt_len (l := delAt hs i) (i := i) (x := x) (by omega)
  unfold effStr
  rw [tops_wide (by omega) hp, tops_wide (by omega) (fun y hy => (mem_insAt hy).elim (fun e => by omega) (fun e => hp y (mem_delAt e))), li, ld, Nat.sub_add_cancel (by omega), grow_rep]
theorem wide_exc {L x : Int} {n i : Nat} {hs : List Int} (hn : hs.length + 1 ≤ n) (hp : ∀ x ∈ hs, 1 ≤ x) (h : hs[i]? = some x) (hi : i + 1 < hs.length) : effExc (List.replicate n L) hs i x = List.replicate hs.length 0 := by
  have ld := delAt_len (l := hs) (i := i) (by omega)
  have li := insAt_len (l := delAt hs i) (i := i + 1) (x := x) (by omega)
  unfold effExc
  rw [tops_wide (by omega) hp, tops_wide (by omega) (fun y hy => hp y (mov_mem h hy)), li, ld, Nat.sub_add_cancel (by omega), grow_rep]
end Lc

namespace Lc
open PySem PySem.Spec PyProof.Rows L2
/-! the greatest item; max with default= -/
def mx (l : List Int) : Int := - mn (l.map fun x => - x)
theorem mx_spec {l : List Int} (h : l ≠ []) : mx l ∈ l ∧ ∀ y ∈ l, y ≤ mx l := by
  have s := mn_spec (cs := l.map fun x => - x) (fun e => h (by simpa using e))
  obtain ⟨x, hx, e⟩ := List.mem_map.mp s.1
  refine ⟨?_, fun y hy => ?_⟩
  · have : mx l = x := by unfold mx; omega
    rw [this]; exact hx
  · have := s.2 (-y) (List.mem_map.mpr ⟨y, hy, rfl⟩)
    unfold mx; omega
theorem mx_eq {l : List Int} {m : Int} (h : m ∈ l) (h2 : ∀ y ∈ l, y ≤ m) : mx l = m := by
  have hn : l ≠ [] := fun e => by rw [e] at h; cases h
  have s := mx_spec hn
  exact Int.le_antisymm (h2 _ s.1) (s.2 m h)
theorem mx_in {cs : List Int} {lo hi : Int} (hne : cs ≠ []) (h : ∀ n ∈ cs, lo ≤ n ∧ n ≤ hi) : lo ≤ mx cs ∧ mx cs ≤ hi := h _ (mx_spec hne).1
theorem mn_in {cs : List Int} {lo hi : Int} (hne : cs ≠ []) (h : ∀ n ∈ cs, lo ≤ n ∧ n ≤ hi) : lo ≤ mn cs ∧ mn cs ≤ hi := h _ (mn_spec hne).1
def mxD (l : List Int) (d : Int) : Int := if l = [] then d else mx l
def rMaxKD (K : PySem.W.Frag) : List V → List V → Hp → VK → Prop := fun vs zs H Q => ∃ (a : Addr) (ns : List Int) (d : Int), vs = [V.ref a] ∧ zs = [V.int d] ∧ SqL K H a (ns.map V.int) ∧ Q (.int (mxD ns d)) H
theorem cr_maxKD {X : Cx} (hc : X.calm = true) : CallRK X (.builtin "max") [Str.ofString "default"] (rMaxKD X.K) := by
  intro pins s σ H vs zs us ws Q I r rz h
  obtain ⟨a, ns, d, rfl, rfl, hs, q⟩ := h
  obtain ⟨its, rv, pl, _⟩ := I.list hs
  rw [Vals.ref1 r]
  obtain ⟨w, rfl, hw⟩ := vals1 rz
  obtain ⟨t, rfl⟩ : ∃ t, w = Value.int d t := hw
  have hi : IntsAre its ns := rv.ints
  have hl := pl.isList
  obtain ⟨xs, e⟩ := hi.allInts.items
  have hn : numsOf (intItems xs).toList = ns := by rw [← e]; exact hi.numsOf
  rw [nums_intItems] at hn
  rw [e] at hl
  have hsz : (intItems xs).size = ns.length := by rw [← e, List.size_toArray, ← rv.length, List.length_map]
  have hsx : xs.size = ns.length := by rw [← hn, List.length_map, Array.length_toList]
  refine PySem.call_max_walkD (PySem.W.iter_listW (I.ok.hd hc) hl fun s₂ e2 W st hfp hw hk => ?_)
  refine ⟨_, _, _, _, _, _, _, s.heap, fun i j => decide (numAt xs i > numAt xs j), rfl, W, st, hfp, hw, hk, fun h0 s' m => ?_, fun h0 => ⟨fun i j vi vj s1 Q1 E1 _ e1 e3 hq => CmpOf.ints_gt (numAt xs) (fun _ _ => intItems_at) i j vi vj s1 Q1 E1 e1 e3 hq, fun v s' hP m => ?_⟩⟩
  · obtain ⟨h', tk, es, hkk⟩ := PySem.W.moved_old e2 rfl m
    have en : ns = [] := List.length_eq_zero_iff.mp (by omega)
    subst es
    refine ⟨.int d, H, I.kept hkk, ⟨t, rfl⟩, ?_⟩
    unfold mxD at q
    rwa [if_pos en] at q
  · obtain ⟨h', tk, es, hkk⟩ := PySem.W.moved_old e2 rfl m
    subst es
    have hP' : (intItems xs)[argBest (fun i j => decide (numAt xs i > numAt xs j)) (xs.size - 1)]? = some v := by
      rw [show (intItems xs).size = xs.size by rw [hsz, hsx]] at hP
      exact hP
    obtain ⟨t2, rfl⟩ := intItems_at hP'
    obtain ⟨h1, h2⟩ := argBest_gt (numAt xs) (xs.size - 1)
    have hpos : 0 < ns.length := by omega
    have em : mx ns = numAt xs (argBest (fun i j => decide (numAt xs i > numAt xs j)) (xs.size - 1)) := by
      refine mx_eq ?_ fun y hy => ?_
      · rw [numAt_eq, ← hn]; exact PySem.getD_mem (by rw [List.length_map, Array.length_toList]; omega)
      · rw [← hn] at hy
        obtain ⟨j, hj, rfl⟩ := mem_getD hy
        rw [List.length_map, Array.length_toList] at hj
        rw [← numAt_eq]; exact h2 j (by omega)
    refine ⟨.int _, H, I.kept hkk, ⟨t2, rfl⟩, ?_⟩
    unfold mxD at q
    rw [if_neg (fun z => by rw [z] at hpos; exact absurd hpos (by decide)), em] at q
    exact q
/-! the columns stand out by the greatest height at most -/
theorem fold_spread (r : Bool) (D : Int) : ∀ (hs : List Int) (s : List (Nat × Int) × List Int), s.2 ≠ [] → (∀ h ∈ hs, 0 ≤ h ∧ h ≤ D) → (∀ c ∈ s.2, c ≤ mn s.2 + D) → ∀ c ∈ (hs.foldl (put r) s).2, c ≤ mn (hs.foldl (put r) s).2 + D
  | [], s, _, _, hc => hc
  | h :: hs, s, hne, hp, hc => by
    obtain ⟨l, p1, p2⟩ := put_cols r s h hne
    have h0 := hp h List.mem_cons_self
    have m0 := mn_spec hne
    have m1 := mn_spec (put_ne (r := r) (h := h) hne)
    have up : mn s.2 ≤ mn (put r s h).2 := by
      rcases List.mem_cons.mp (p2.subset m1.1) with e | e
      · rw [e]; omega
      · exact m0.2 _ (p1.subset (List.mem_cons_of_mem _ e))
    refine fold_spread r D hs (put r s h) (put_ne hne) (fun x hx => hp x (List.mem_cons_of_mem _ hx)) fun c hcm => ?_
    rcases List.mem_cons.mp (p2.subset hcm) with e | e
    · rw [e]; omega
    · have := hc c (p1.subset (List.mem_cons_of_mem _ e)); omega
theorem perm_sum {a b : List Int} (p : a.Perm b) : a.sum = b.sum := by
  induction p with
  | nil => rfl
  | cons x _ ih => rw [List.sum_cons, List.sum_cons, ih]
  | swap x y l => rw [List.sum_cons, List.sum_cons, List.sum_cons, List.sum_cons]; omega
  | trans _ _ h1 h2 => exact h1.trans h2
theorem sum_le_mul {B : Int} : ∀ {l : List Int}, (∀ c ∈ l, c ≤ B) → l.sum ≤ l.length * B
  | [], _ => by simp
  | x :: l, h => by
    have h1 := h x List.mem_cons_self
    have h2 := sum_le_mul (B := B) (l := l) fun c hc => h c (List.mem_cons_of_mem _ hc)
    have e : (((x :: l).length : Nat) : Int) * B = (l.length : Int) * B + B := by
      rw [List.length_cons, Int.natCast_add, Int.add_mul]; simp
    rw [List.sum_cons, e]; omega
theorem mul_le_sum {B : Int} : ∀ {l : List Int}, (∀ c ∈ l, B ≤ c) → l.length * B ≤ l.sum
  | [], _ => by simp
  | x :: l, h => by
    have h1 := h x List.mem_cons_self
    have h2 := mul_le_sum (B := B) (l := l) fun c hc => h c (List.mem_cons_of_mem _ hc)
    have e : (((x :: l).length : Nat) : Int) * B = (l.length : Int) * B + B := by
      rw [List.length_cons, Int.natCast_add, Int.add_mul]; simp
    rw [List.sum_cons, e]; omega
/-- what lowest_bounds finds -/
def lbD (cs hs : List Int) : Int := if mx cs - mn cs > mxD hs 0 then mx cs - mn cs else mxD hs 0
def lbLo (cs hs : List Int) : Int := -(((((cs.length : Nat) : Int) - 1) * lbD cs hs - (ends cs hs).sum) / ((cs.length : Nat) : Int))
theorem lbD_le (cs hs : List Int) : mx cs - mn cs ≤ lbD cs hs ∧ mxD hs 0 ≤ lbD cs hs := by
  unfold lbD
  split <;> omega
theorem lbD_mem {cs hs : List Int} : (lbD cs hs = mx cs - mn cs) ∨ lbD cs hs = mxD hs 0 := by
  unfold lbD
  split <;> simp
/-- the bounds of a division up -/
theorem ceil_facts {n X q : Int} (hn : 0 < n) (e : q = X / n) : n * (-q - 1) < -X ∧ -X ≤ n * -q := by
  have h1 := Int.mul_ediv_self_le (x := X) (k := n) (by omega)
  have h2 := Int.lt_mul_ediv_self_add (x := X) (k := n) hn
  rw [← e] at h1 h2
  rw [Int.mul_sub, Int.mul_neg, Int.mul_one]
  omega
theorem floor_facts {n X q : Int} (hn : 0 < n) (e : q = X / n) : n * q ≤ X ∧ X < n * (q + 1) := by
  have h1 := Int.mul_ediv_self_le (x := X) (k := n) (by omega)
  have h2 := Int.lt_mul_ediv_self_add (x := X) (k := n) hn
  rw [← e] at h1 h2
  rw [Int.mul_add, Int.mul_one]
  omega
theorem low_within {es : List Int} {D : Int} (hne : es ≠ []) (h : ∀ c ∈ es, c ≤ mn es + D) : es.sum - (((es.length : Nat) : Int) - 1) * D ≤ ((es.length : Nat) : Int) * mn es ∧ ((es.length : Nat) : Int) * mn es ≤ es.sum := by
  refine ⟨?_, mul_le_sum (mn_spec hne).2⟩
  have m := (mn_spec hne).1
  have g := ix_get m
  have p := erase_perm es (ix (mn es) es) (mn es) g
  have hs := perm_sum p
  have hl := p.length_eq
  have hb := sum_le_mul (B := mn es + D) (l := es.eraseIdx (ix (mn es) es)) fun c hc => h c (p.subset (List.mem_cons_of_mem _ hc))
  generalize es.eraseIdx (ix (mn es) es) = l at p hs hl hb
  rw [List.sum_cons] at hs
  rw [List.length_cons] at hl
  have e1 : ((es.length : Nat) : Int) = (l.length : Int) + 1 := by omega
  rw [e1, show ((l.length : Int) + 1 - 1) = (l.length : Int) by omega, Int.add_mul, Int.one_mul]
  rw [Int.mul_add] at hb
  omega
/-! a start that is nowhere higher: no top is greater -/
def cnt (t : Int) (l : List Int) : Nat := l.countP fun c => decide (c ≤ t)
def Dom (A B : List Int) : Prop := ∀ t, cnt t A ≤ cnt t B
theorem cnt_perm {t : Int} {a b : List Int} (p : a.Perm b) : cnt t a = cnt t b := p.countP_eq _
theorem cnt_cons (t x : Int) (l : List Int) : cnt t (x :: l) = cnt t l + if x ≤ t then 1 else 0 := by
  unfold cnt
  rw [List.countP_cons]
  by_cases h : x ≤ t
  · rw [if_pos (by simpa using h), if_pos h]
  · rw [if_neg (by simpa using h), if_neg h]
theorem cnt_zero {t : Int} {l : List Int} (h : ∀ c ∈ l, t < c) : cnt t l = 0 := by
  unfold cnt
  rw [List.countP_eq_zero]
  intro c hc
  have := h c hc
  simp; omega
theorem Dom.mn {A B : List Int} (h : Dom A B) (hA : A ≠ []) : B ≠ [] ∧ mn B ≤ mn A := by
  have s := mn_spec hA
  have h1 : 0 < cnt (Lc.mn A) A := List.countP_pos_iff.mpr ⟨_, s.1, by simp⟩
  have h2 : 0 < cnt (Lc.mn A) B := Nat.lt_of_lt_of_le h1 (h _)
  obtain ⟨c, hc, hle⟩ := List.countP_pos_iff.mp h2
  have hB : B ≠ [] := fun e => by rw [e] at hc; cases hc
  have := (mn_spec hB).2 c hc
  exact ⟨hB, by have : c ≤ Lc.mn A := by simpa using hle
                omega⟩
theorem Dom.put {r r' : Bool} {s s' : List (Nat × Int) × List Int} {x : Int} (h : Dom s.2 s'.2) (h0 : 0 ≤ x) (hne : s.2 ≠ []) : Dom (put r s x).2 (Lc.put r' s' x).2 := by
  obtain ⟨hne', hm⟩ := h.mn hne
  obtain ⟨l, p1, p2⟩ := put_cols r s x hne
  obtain ⟨l', p1', p2'⟩ := put_cols r' s' x hne'
  intro t
  have ht := h t
  rw [← cnt_perm p1, ← cnt_perm p1', cnt_cons, cnt_cons] at ht
  rw [cnt_perm p2, cnt_perm p2', cnt_cons, cnt_cons]
  by_cases hmt : Lc.mn s.2 ≤ t
  · rw [if_pos hmt, if_pos (by omega)] at ht
    by_cases h1 : Lc.mn s.2 + x ≤ t
    · rw [if_pos h1, if_pos (by omega)]; omega
    · rw [if_neg h1]; omega
  · have z : cnt t l = 0 := cnt_zero fun c hc => by
      have := (mn_spec hne).2 c (p1.subset (List.mem_cons_of_mem _ hc))
      omega
    rw [z, if_neg (by omega)]
    omega
def Le2 (a b : List Int) : Prop := a.length = b.length ∧ ∀ p ∈ a.zip b, p.2 ≤ p.1
theorem Le2.snoc {a b : List Int} {x y : Int} (h : Le2 a b) (hxy : y ≤ x) : Le2 (a ++ [x]) (b ++ [y]) := by
  refine ⟨by rw [List.length_append, List.length_append, h.1]; rfl, fun p hp => ?_⟩
  rw [List.zip_append h.1] at hp
  rcases List.mem_append.mp hp with hp | hp
  · exact h.2 p hp
  · have : p = (x, y) := List.mem_singleton.mp hp
    rw [this]; exact hxy
theorem fold_dom (r r' : Bool) : ∀ (hs : List Int) (s s' : List (Nat × Int) × List Int), s.2 ≠ [] → (∀ h ∈ hs, 0 ≤ h) → Dom s.2 s'.2 → Le2 (s.1.map (·.2)) (s'.1.map (·.2)) →
    Le2 ((hs.foldl (put r) s).1.map (·.2)) ((hs.foldl (put r') s').1.map (·.2)) ∧ Dom (hs.foldl (put r) s).2 (hs.foldl (put r') s').2
  | [], s, s', _, _, d, e => ⟨e, d⟩
  | h :: hs, s, s', hne, hp, d, e => by
    refine fold_dom r r' hs (put r s h) (put r' s' h) (put_ne hne) (fun x hx => hp x (List.mem_cons_of_mem _ hx)) (d.put (hp h List.mem_cons_self) hne) ?_
    show Le2 ((s.1 ++ [(low r s.2, mn s.2)]).map (·.2)) ((s'.1 ++ [(low r' s'.2, mn s'.2)]).map (·.2))
    rw [List.map_append, List.map_append]
    exact e.snoc (d.mn hne).2
theorem tops_dom {cs cs' hs : List Int} (hne : cs ≠ []) (hp : ∀ h ∈ hs, 0 ≤ h) (d : Dom cs cs') : ∀ g ∈ grow (tops cs hs) (tops cs' hs), g ≤ 0 := by
  have q := (fold_dom false false hs ([], cs) ([], cs') hne hp d ⟨rfl, fun p hp => by cases hp⟩).1
  intro g hg
  unfold grow at hg
  obtain ⟨p, hpm, rfl⟩ := List.mem_map.mp hg
  have := q.2 p hpm
  omega
theorem dom_more (cs : List Int) (x : Int) : Dom cs (cs ++ [x]) := fun t => by
  unfold cnt
  rw [List.countP_append]
  omega
end Lc

namespace Lc
open PySem PySem.Spec PyProof.Rows L2
/-! walks: for over enumerate, a comprehension over zip of tuples -/
theorem for_enum {K : PySem.W.Frag} {a : Addr} {xs : List V} {g : TG} {tb : TS} {D : Ends} {σ : L2.St} {H : Hp} (Pv : Nat → L2.St → Hp → Prop) (h0 : Pv 0 σ H) (hl : ∀ i σ H, i ≤ xs.length → Pv i σ H → SqL K H a xs)
    (hs : ∀ i x σ H T, xs[i]? = some x → Pv i σ H → H T = none → g (.ref T) σ (upd H T (.tup [.int (i : Nat), x])) fun σ2 H2 => tb { D with nx := Pv (i + 1), ct := Pv (i + 1), bk := D.nx } σ2 H2) (hd : ∀ σ H, Pv xs.length σ H → D.nx σ H) :
    ∃ W : Nat → Nat → L2.St → Hp → Prop, (∃ m, W 0 m σ H) ∧ ∀ i m σ H, W i m σ H →
      ((Ite K a).stop i H ∧ D.nx σ H) ∨ ((Ite K a).go i H ∧ ∃ N : L2.St → Hp → Prop, (∀ σ' H', N σ' H' → ∃ m', m' < m ∧ W (i + 1) m' σ' H') ∧ ∀ x H', (Ite K a).yld i H x H' → g x σ H' fun σ2 H2 => tb { D with nx := N, ct := N, bk := D.nx } σ2 H2) :=
  for_it walk_enum Pv h0 hl (fun i x σ H H' hi p y => by
    obtain ⟨T, u, v, rfl, nT, rfl, e1, e2⟩ := y
    cases e1
    exact hs i v σ H T e2 p nT) hd
theorem walk_zipT {K : PySem.W.Frag} {a b : Addr} {xs ys : List V} {n : Nat} (hn : n = min xs.length ys.length) : Walk (RZ.ItzT K a b) n (fun H => SqT K H a xs ∧ SqT K H b ys) (YPair (fun i => xs[i]?) (fun i => ys[i]?)) := by
  subst hn
  refine ⟨fun i _ hi q => ?_, fun _ q => ⟨xs, ys, q.1, q.2, by omega⟩, fun i H v H' _ q y => ?_⟩
  · have h1 : i < xs.length := by omega
    have h2 : i < ys.length := by omega
    exact ⟨xs, ys, xs[i], ys[i], q.1, q.2, by simp [h1], by simp [h2]⟩
  · obtain ⟨T, x, z, h1, h2, h3, h4, h5⟩ := y
    exact ⟨T, x, z, h1, h2, h3, h4 xs q.1, h5 ys q.2⟩
theorem lc_zipT {K : PySem.W.Frag} {a b D : Addr} {xs ys : List V} {g : TG} {tt : TT} {te : TE} {vs : List Nat} {σ : L2.St} {H0 : Hp} {Qd : Hp → Prop}
    (hle : xs.length = ys.length) (Pv : Nat → Hp → Prop) (h0 : Pv 0 (upd H0 D (.lst []))) (hl : ∀ i H, i ≤ xs.length → Pv i H → SqT K H a xs ∧ SqT K H b ys)
    (hs : ∀ i x y H T, xs[i]? = some x → ys[i]? = some y → Pv i H → H T = none → g (.ref T) (wipe σ vs) (upd H T (.tup [x, y])) fun σ2 H2 =>
      wipe σ2 vs = wipe σ vs ∧ tt σ2 H2 fun b H3 => if b = true then te σ2 H3 fun y H4 => ∃ acc, H4 D = some (.lst acc) ∧ acc.length < sizeLine ∧ Pv (i + 1) (upd H4 D (.lst (acc ++ [y]))) else Pv (i + 1) H3)
    (hd : ∀ H, Pv xs.length H → Qd H) :
    ∃ W : Nat → Nat → Hp → Prop, (∃ m, W 0 m (upd H0 D (.lst []))) ∧ ∀ i m H, W i m H →
      (((RZ.ItzT K a b).stop i H ∧ Qd H) ∨ ((RZ.ItzT K a b).go i H ∧ ∃ Nx : Hp → Prop, (∀ H', Nx H' → ∃ m', m' < m ∧ W (i + 1) m' H') ∧
        ∀ x H', (RZ.ItzT K a b).yld i H x H' → g x (wipe σ vs) H' fun σ2 H2 => wipe σ2 vs = wipe σ vs ∧ tt σ2 H2 fun b H3 =>
          if b = true then te σ2 H3 fun y H4 => ∃ acc, H4 D = some (.lst acc) ∧ acc.length < sizeLine ∧ Nx (upd H4 D (.lst (acc ++ [y]))) else Nx H3)) :=
  lc_it (walk_zipT (n := xs.length) (by omega)) Pv h0 hl (fun i x H H' hi p y => by
    obtain ⟨T, u, v, rfl, nT, rfl, e1, e2⟩ := y
    exact hs i u v H T e1 e2 p nT) hd
/-! sorted lists, their differences place by place -/
def srt (l : List Int) : List Int := l.mergeSort fun a b => decide (a ≤ b)
theorem srt_perm (l : List Int) : (srt l).Perm l := List.mergeSort_perm _ _
theorem srt_sorted (l : List Int) : Sorted (srt l) := by
  have := List.pairwise_mergeSort (le := fun a b : Int => decide (a ≤ b)) (fun a b c h1 h2 => by simp at *; omega) (fun a b => by simp; omega) l
  exact this.imp fun h => by simpa using h
theorem srt_len (l : List Int) : (srt l).length = l.length := (srt_perm l).length_eq
theorem srt_eq {l m : List Int} (p : m.Perm l) (s : Sorted m) : m = srt l := sorted_uniq s (srt_sorted l) (p.trans (srt_perm l).symm)
theorem srt_of_perm {a b : List Int} (p : a.Perm b) : srt a = srt b := srt_eq ((srt_perm a).trans p) (srt_sorted a)
theorem srt_add (l : List Int) (m : Int) : (srt l).map (· + m) = srt (l.map (· + m)) := srt_eq ((srt_perm l).map _) (List.Pairwise.map _ (fun a b h => by show a + m ≤ b + m; omega) (srt_sorted l))
theorem grow_neg : ∀ a b : List Int, grow b a = (grow a b).map fun x => -x
  | [], b => by cases b <;> rfl
  | x :: a, [] => rfl
  | x :: a, y :: b => by
    have ih := grow_neg a b
    unfold grow at ih ⊢
    simp only [List.zip_cons_cons, List.map_cons, ih]
    rw [show x - y = -(y - x) by omega]
theorem grow_add (m : Int) : ∀ a b : List Int, grow a (b.map (· + m)) = (grow a b).map (· + m)
  | [], b => by cases b <;> rfl
  | x :: a, [] => rfl
  | x :: a, y :: b => by
    have ih := grow_add m a b
    unfold grow at ih ⊢
    simp only [List.zip_cons_cons, List.map_cons, ih]
    rw [show y + m - x = y - x + m by omega]
theorem mn_add {l : List Int} (h : l ≠ []) (m : Int) : mn (l.map (· + m)) = mn l + m := by
  have s := mn_spec h
  exact mn_eq (List.mem_map.mpr ⟨_, s.1, rfl⟩) fun y hy => by
    obtain ⟨z, hz, rfl⟩ := List.mem_map.mp hy
    have := s.2 z hz
    show mn l + m ≤ z + m
    omega
theorem mx_add {l : List Int} (h : l ≠ []) (m : Int) : mx (l.map (· + m)) = mx l + m := by
  have s := mx_spec h
  exact mx_eq (List.mem_map.mpr ⟨_, s.1, rfl⟩) fun y hy => by
    obtain ⟨z, hz, rfl⟩ := List.mem_map.mp hy
    have := s.2 z hz
    show z + m ≤ mx l + m
    omega
theorem mn_neg (l : List Int) : mn (l.map fun x => -x) = - mx l := by unfold mx; omega
theorem mx_neg (l : List Int) : mx (l.map fun x => -x) = - mn l := by
  unfold mx
  rw [List.map_map]
  have : ((fun x : Int => -x) ∘ fun x : Int => -x) = id := by funext x; show - -x = x; omega
  rw [this, List.map_id]
def gaps (a b : List Int) : List Int := grow (srt a) (srt b)
def gLo (a b : List Int) : Int := mn (gaps a b)
def gHi (a b : List Int) : Int := mx (gaps a b)
theorem gaps_len {a b : List Int} (h : a.length = b.length) : (gaps a b).length = a.length := by
  unfold gaps
  rw [grow_len (by rw [srt_len, srt_len, h]), srt_len]
theorem gaps_perm {a b a' b' : List Int} (p : a'.Perm a) (q : b'.Perm b) : gaps a' b' = gaps a b := by
  unfold gaps
  rw [srt_of_perm p, srt_of_perm q]
theorem gaps_neg (a b : List Int) : gaps b a = (gaps a b).map fun x => -x := grow_neg _ _
theorem gaps_add (a b : List Int) (m : Int) : gaps a (b.map (· + m)) = (gaps a b).map (· + m) := by
  unfold gaps
  rw [← srt_add, grow_add]
theorem gaps_ne {a b : List Int} (h : a.length = b.length) (ha : a ≠ []) : gaps a b ≠ [] := fun e => ha (List.length_eq_zero_iff.mp (by rw [← gaps_len h, e]; rfl))
theorem gaps_in {a b : List Int} {M : Int} (ha : ∀ x ∈ a, 0 ≤ x ∧ x ≤ M) (hb : ∀ x ∈ b, 0 ≤ x ∧ x ≤ M) : ∀ g ∈ gaps a b, -M ≤ g ∧ g ≤ M := fun g hg => by
  unfold gaps grow at hg
  obtain ⟨p, hp, rfl⟩ := List.mem_map.mp hg
  have z := List.of_mem_zip (show (p.1, p.2) ∈ (srt a).zip (srt b) from hp)
  have h1 := ha _ ((srt_perm a).subset z.1)
  have h2 := hb _ ((srt_perm b).subset z.2)
  omega
end Lc

namespace Lc
open PySem PySem.Spec PyProof.Rows L2
/-! rounds of a feed: plain Lean -/
def shP (d : Int) (s : List (Nat × Int) × List Int) : List (Nat × Int) × List Int := (s.1.map fun p => (p.1, p.2 + d), s.2.map (· + d))
theorem ix_add (m d : Int) : ∀ l : List Int, ix (m + d) (l.map (· + d)) = ix m l
  | [] => rfl
  | x :: l => by
    show (if x + d = m + d then 0 else ix (m + d) (l.map (· + d)) + 1) = if x = m then 0 else ix m l + 1
    rw [ix_add m d l]
    by_cases h : x = m
    · rw [if_pos h, if_pos (by omega)]
    · rw [if_neg h, if_neg (by omega)]
theorem low_add {l : List Int} (h : l ≠ []) (d : Int) : low false (l.map (· + d)) = low false l := by
  unfold low
  rw [if_neg (by simp), if_neg (by simp), mn_add h, ix_add]
theorem put_add {s : List (Nat × Int) × List Int} (h : s.2 ≠ []) (d x : Int) : put false (shP d s) x = shP d (put false s x) := by
  unfold put shP
  simp only [low_add h, mn_add h, List.map_append, List.map_cons, List.map_nil, List.map_set]
  rw [show mn s.2 + d + x = mn s.2 + x + d by omega]
theorem fold_add (d : Int) : ∀ (hs : List Int) (s : List (Nat × Int) × List Int), s.2 ≠ [] → hs.foldl (put false) (shP d s) = shP d (hs.foldl (put false) s)
  | [], _, _ => rfl
  | x :: hs, s, h => by
    show hs.foldl (put false) (put false (shP d s) x) = _
    rw [put_add h]
    exact fold_add d hs _ (put_ne h)
theorem play_add {cs : List Int} (h : cs ≠ []) (hs : List Int) (d : Int) : play false (cs.map (· + d)) hs = shP d (play false cs hs) := fold_add d hs ([], cs) h
theorem ends_add {cs : List Int} (h : cs ≠ []) (hs : List Int) (d : Int) : ends (cs.map (· + d)) hs = (ends cs hs).map (· + d) := by
  unfold ends
  rw [play_add h]
  rfl
theorem fold_sum (r : Bool) : ∀ (hs : List Int) (s : List (Nat × Int) × List Int), s.2 ≠ [] → (hs.foldl (put r) s).2.sum = s.2.sum + hs.sum
  | [], s, _ => by simp
  | h :: hs, s, hne => by
    obtain ⟨l, p1, p2⟩ := put_cols r s h hne
    have e1 := perm_sum p1
    have e2 := perm_sum p2
    rw [List.sum_cons] at e1 e2
    have ih := fold_sum r hs (put r s h) (put_ne hne)
    show (hs.foldl (put r) (put r s h)).2.sum = _
    rw [ih, e2, List.sum_cons]
    omega
theorem ends_sum {cs hs : List Int} (h : cs ≠ []) : (ends cs hs).sum = cs.sum + hs.sum := fold_sum false hs ([], cs) h
def rn (cs bs : List Int) : Nat → List Int
  | 0 => cs
  | n + 1 => ends (rn cs bs n) bs
def dif (l : List Int) : List Int := l.map fun x => x - mn l
section
variable {cs bs : List Int}
theorem rn_len : ∀ n, (rn cs bs n).length = cs.length
  | 0 => rfl
  | n + 1 => by
    show (ends (rn cs bs n) bs).length = _
    unfold ends
    rw [play_cols, rn_len n]
theorem rn_ne (h : cs ≠ []) (n : Nat) : rn cs bs n ≠ [] := fun e => h (List.length_eq_zero_iff.mp (by rw [← rn_len (bs := bs) n, e]; rfl))
theorem rn_sum (h : cs ≠ []) : ∀ n : Nat, (rn cs bs n).sum = cs.sum + n * bs.sum
  | 0 => by simp [rn]
  | n + 1 => by
    show (ends (rn cs bs n) bs).sum = _
    rw [ends_sum (rn_ne h n), rn_sum h n, Int.natCast_add, Int.add_mul]
    simp
    omega
theorem dif_len (l : List Int) : (dif l).length = l.length := List.length_map ..
theorem dif_add {l : List Int} (h : l ≠ []) (d : Int) : dif (l.map (· + d)) = dif l := by
  unfold dif
  rw [mn_add h, List.map_map]
  refine List.map_congr_left fun x _ => ?_
  show x + d - (mn l + d) = x - mn l
  omega
theorem dif_back (l : List Int) : (dif l).map (· + mn l) = l := by
  unfold dif
  rw [List.map_map]
  conv => rhs; rw [← List.map_id l]
  refine List.map_congr_left fun x _ => ?_
  show x - mn l + mn l = x
  omega
theorem dif_eq {l l' : List Int} (e : dif l = dif l') : l' = l.map (· + (mn l' - mn l)) := by
  have h1 := dif_back l'
  rw [← e] at h1
  conv => lhs; rw [← h1]
  unfold dif
  rw [List.map_map]
  refine List.map_congr_left fun x _ => ?_
  show x - mn l + mn l' = x + (mn l' - mn l)
  omega
theorem rn_shift (h : cs ≠ []) {i j : Nat} (e : dif (rn cs bs i) = dif (rn cs bs j)) : ∀ k, rn cs bs (j + k) = (rn cs bs (i + k)).map (· + (mn (rn cs bs j) - mn (rn cs bs i)))
  | 0 => dif_eq e
  | k + 1 => by
    show ends (rn cs bs (j + k)) bs = (ends (rn cs bs (i + k)) bs).map _
    rw [rn_shift h e k, ends_add (rn_ne h _)]
end
/-- the start and the block of a feed -/
structure IsFeed (cs bs : List Int) : Prop where
  l0 : 1 ≤ cs.length
  l1 : cs.length ≤ 4
  c : ∀ x ∈ cs, 0 ≤ x ∧ x ≤ 9
  b0 : 1 ≤ bs.length
  b1 : bs.length ≤ 30
  b : ∀ x ∈ bs, 1 ≤ x ∧ x ≤ 9
section
variable {cs bs : List Int}
theorem IsFeed.ne (F : IsFeed cs bs) : cs ≠ [] := fun e => by have := F.l0; rw [e] at this; simp at this
theorem IsFeed.bne (F : IsFeed cs bs) : bs ≠ [] := fun e => by have := F.b0; rw [e] at this; simp at this
theorem rn_spread (F : IsFeed cs bs) : ∀ n, ∀ c ∈ rn cs bs n, mn (rn cs bs n) ≤ c ∧ c ≤ mn (rn cs bs n) + 9
  | 0, c, hc => by
    have m := mn_spec F.ne
    have h1 := F.c _ m.1
    have h2 := F.c c hc
    exact ⟨m.2 c hc, by show c ≤ mn cs + 9; omega⟩
  | n + 1, c, hc => by
    have ih := rn_spread F n
    have hne := rn_ne (bs := bs) F.ne n
    exact ⟨(mn_spec (rn_ne F.ne (n + 1))).2 c hc, fold_spread false 9 bs ([], rn cs bs n) hne (fun h hh => by have := F.b h hh; omega) (fun c hc => (ih c hc).2) c hc⟩
theorem dif_dig (F : IsFeed cs bs) (n : Nat) : ∀ x ∈ dif (rn cs bs n), 0 ≤ x ∧ x ≤ 9 := fun x hx => by
  unfold dif at hx
  obtain ⟨c, hc, rfl⟩ := List.mem_map.mp hx
  have := rn_spread F n c hc
  show 0 ≤ c - mn _ ∧ c - mn _ ≤ 9
  omega
end
/-! differences come again -/
def code : List Int → Nat
  | [] => 0
  | x :: l => x.toNat + 10 * code l
theorem code_lt : ∀ {l : List Int}, (∀ x ∈ l, 0 ≤ x ∧ x ≤ 9) → code l < 10 ^ l.length
  | [], _ => by decide
  | x :: l, h => by
    have h1 := h x List.mem_cons_self
    have h2 := code_lt (l := l) fun y hy => h y (List.mem_cons_of_mem _ hy)
    show x.toNat + 10 * code l < 10 ^ (l.length + 1)
    rw [Nat.pow_succ]
    omega
theorem code_inj : ∀ {l m : List Int}, (∀ x ∈ l, 0 ≤ x ∧ x ≤ 9) → (∀ x ∈ m, 0 ≤ x ∧ x ≤ 9) → l.length = m.length → code l = code m → l = m
  | [], [], _, _, _, _ => rfl
  | [], _ :: _, _, _, h, _ => by simp at h
  | _ :: _, [], _, _, h, _ => by simp at h
  | x :: l, y :: m, hl, hm, h, e => by
    have h1 := hl x List.mem_cons_self
    have h2 := hm y List.mem_cons_self
    have e' : x.toNat + 10 * code l = y.toNat + 10 * code m := e
    have ex : x = y := by omega
    rw [ex, code_inj (fun z hz => hl z (List.mem_cons_of_mem _ hz)) (fun z hz => hm z (List.mem_cons_of_mem _ hz)) (by simpa using h) (by omega)]
theorem pigeon : ∀ (M : Nat) (f : Nat → Nat), (∀ i, i ≤ M → f i < M) → ∃ i j, i < j ∧ j ≤ M ∧ f i = f j
  | 0, f, h => absurd (h 0 (Nat.le_refl _)) (by omega)
  | M + 1, f, h => by
    by_cases c : ∃ i, i ≤ M ∧ f i = f (M + 1)
    · obtain ⟨i, hi, e⟩ := c
      exact ⟨i, M + 1, by omega, Nat.le_refl _, e⟩
    · have c' : ∀ i, i ≤ M → f i ≠ f (M + 1) := fun i hi e => c ⟨i, hi, e⟩
      have hv := h (M + 1) (Nat.le_refl _)
      obtain ⟨i, j, hij, hj, e⟩ := pigeon M (fun i => if f i = M then f (M + 1) else f i) fun i hi => by
        have h1 := h i (by omega)
        have h2 := c' i hi
        show (if f i = M then f (M + 1) else f i) < M
        split <;> omega
      refine ⟨i, j, hij, by omega, ?_⟩
      have h1 := c' i (by omega)
      have h2 := c' j hj
      have e' : (if f i = M then f (M + 1) else f i) = if f j = M then f (M + 1) else f j := e
      by_cases a : f i = M
      · rw [if_pos a] at e'
        by_cases b : f j = M
        · omega
        · rw [if_neg b] at e'; omega
      · rw [if_neg a] at e'
        by_cases b : f j = M
        · rw [if_pos b] at e'; omega
        · rw [if_neg b] at e'; exact e'
theorem least_nat {p : Nat → Prop} : ∀ n, p n → ∃ m, m ≤ n ∧ p m ∧ ∀ k, k < m → ¬ p k := fun n => by
  induction n using Nat.strongRecOn with
  | ind n ih =>
    intro h
    by_cases c : ∃ k, k < n ∧ p k
    · obtain ⟨k, hk, pk⟩ := c
      obtain ⟨m, hm, r⟩ := ih k hk pk
      exact ⟨m, by omega, r⟩
    · exact ⟨n, Nat.le_refl _, h, fun k hk pk => c ⟨k, hk, pk⟩⟩
/-- the first differences that came before: after N rounds, before after f -/
structure Rep (cs bs : List Int) (N f : Nat) : Prop where
  lt : f < N
  eq : dif (rn cs bs f) = dif (rn cs bs N)
  inj : ∀ i j, i < j → j < N → dif (rn cs bs i) ≠ dif (rn cs bs j)
  le : N ≤ 10000
theorem rep_ex {cs bs : List Int} (F : IsFeed cs bs) : ∃ N f, Rep cs bs N f := by
  have hl := F.l1
  have hp : 10 ^ cs.length ≤ 10000 := Nat.pow_le_pow_right (n := 10) (by decide) hl
  obtain ⟨i, j, hij, hj, e⟩ := pigeon (10 ^ cs.length) (fun i => code (dif (rn cs bs i))) fun i _ => by
    have := code_lt (dif_dig F i)
    rw [dif_len, rn_len] at this
    exact this
  have e' := code_inj (dif_dig F i) (dif_dig F j) (by rw [dif_len, dif_len, rn_len, rn_len]) e
  obtain ⟨N, hN, ⟨f, hf, ef⟩, hmin⟩ := least_nat (p := fun n => ∃ i, i < n ∧ dif (rn cs bs i) = dif (rn cs bs n)) j ⟨i, hij, e'⟩
  exact ⟨N, f, hf, ef, fun a b hab hb eab => hmin b hb ⟨a, hab, eab⟩, by omega⟩
section
variable {cs bs : List Int} {N f : Nat}
theorem Rep.ne (R : Rep cs bs N f) {i j : Nat} (hi : i < N) (hj : j < N) (h : i ≠ j) : dif (rn cs bs i) ≠ dif (rn cs bs j) := fun e => by
  rcases Nat.lt_or_gt_of_ne h with h | h
  · exact R.inj i j h hj e
  · exact R.inj j i h hi e.symm
theorem Rep.only (R : Rep cs bs N f) {i : Nat} (hi : i < N) (e : dif (rn cs bs i) = dif (rn cs bs N)) : i = f := by
  by_cases h : i = f
  · exact h
  · exact absurd (e.trans R.eq.symm) (R.ne hi R.lt h)
/-- how much every column grows -/
def growth (cs bs : List Int) (N f : Nat) : Int := (rn cs bs N).headD 0 - (rn cs bs f).headD 0
theorem Rep.grow (F : IsFeed cs bs) (R : Rep cs bs N f) : mn (rn cs bs N) - mn (rn cs bs f) = growth cs bs N f := by
  have e := dif_eq R.eq
  have hne := rn_ne (bs := bs) F.ne f
  unfold growth
  generalize hA : rn cs bs f = A at e hne ⊢
  generalize mn (rn cs bs N) - mn A = g at e ⊢
  rw [e]
  cases A with
  | nil => exact absurd rfl hne
  | cons x A => show g = x + g - x; omega
theorem Rep.shift (F : IsFeed cs bs) (R : Rep cs bs N f) (k : Nat) : rn cs bs (N + k) = (rn cs bs (f + k)).map (· + growth cs bs N f) := by
  rw [← R.grow F]
  exact rn_shift F.ne R.eq k
theorem sum_add (d : Int) : ∀ l : List Int, (l.map (· + d)).sum = l.sum + l.length * d
  | [] => by simp
  | x :: l => by
    have ih := sum_add d l
    rw [List.map_cons, List.sum_cons, List.sum_cons, ih, List.length_cons, Int.natCast_add, Int.add_mul]
    simp
    omega
theorem Rep.sum (F : IsFeed cs bs) (R : Rep cs bs N f) : (cs.length : Int) * growth cs bs N f = ((N : Int) - f) * bs.sum := by
  have e := R.shift F 0
  have h1 := rn_sum (bs := bs) F.ne N
  have h2 := rn_sum (bs := bs) F.ne f
  have h3 := sum_add (growth cs bs N f) (rn cs bs f)
  rw [Nat.add_zero, Nat.add_zero] at e
  rw [← e, h1, h2, rn_len] at h3
  rw [Int.sub_mul]
  omega
end
/-! dicts whose keys are made from the numbers below k -/
section
variable {κ : Type} [DecidableEq κ]
theorem valV_no {kvs : List (κ × V)} {x : κ} (h : ∀ p ∈ kvs, p.1 ≠ x) : valV kvs x = none := by
  unfold valV
  have : kvs.find? (fun kv => decide (kv.1 = x)) = none := List.find?_eq_none.mpr fun p hp => by simpa using h p hp
  rw [this]; rfl
theorem valV_yes {kvs : List (κ × V)} {x : κ} {v : V} (h : ∀ p ∈ kvs, p.1 = x → p.2 = v) (h2 : ∃ p ∈ kvs, p.1 = x) : valV kvs x = some v := by
  unfold valV
  cases e : kvs.find? (fun kv => decide (kv.1 = x)) with
  | none =>
    obtain ⟨p, hp, ep⟩ := h2
    have := List.find?_eq_none.mp e p hp
    simp [ep] at this
  | some p =>
    have h3 := List.find?_some e
    have h4 := List.mem_of_find?_eq_some e
    rw [Option.map_some, h p h4 (by simpa using h3)]
theorem putK_no {kvs : List (κ × V)} {x : κ} {v : V} (h : ∀ p ∈ kvs, p.1 ≠ x) : putK kvs x v = kvs ++ [(x, v)] := by
  unfold putK
  have : (kvs.any fun kv => decide (kv.1 = x)) = false := by
    rw [List.any_eq_false]
    intro p hp
    simpa using h p hp
  rw [this, if_neg Bool.false_ne_true]
def kvN (g : Nat → κ) (v : Nat → V) (k : Nat) : List (κ × V) := (List.range k).map fun i => (g i, v i)
theorem kvN_mem {g : Nat → κ} {v : Nat → V} {k : Nat} {p : κ × V} (h : p ∈ kvN g v k) : ∃ i, i < k ∧ p = (g i, v i) := by
  obtain ⟨i, hi, rfl⟩ := List.mem_map.mp h
  exact ⟨i, List.mem_range.mp hi, rfl⟩
theorem kvN_succ (g : Nat → κ) (v : Nat → V) (k : Nat) : kvN g v (k + 1) = kvN g v k ++ [(g k, v k)] := by
  unfold kvN
  rw [List.range_succ, List.map_append]; rfl
theorem kvN_len (g : Nat → κ) (v : Nat → V) (k : Nat) : (kvN g v k).length = k := by unfold kvN; rw [List.length_map, List.length_range]
theorem kvN_no {g : Nat → κ} {v : Nat → V} {k : Nat} {x : κ} (h : ∀ i, i < k → g i ≠ x) : valV (kvN g v k) x = none := valV_no fun p hp => by
  obtain ⟨i, hi, rfl⟩ := kvN_mem hp
  exact h i hi
theorem kvN_put {g : Nat → κ} {v : Nat → V} {k : Nat} (h : ∀ i, i < k → g i ≠ g k) : putK (kvN g v k) (g k) (v k) = kvN g v (k + 1) := by
  rw [kvN_succ]
  exact putK_no fun p hp => by
    obtain ⟨i, hi, rfl⟩ := kvN_mem hp
    exact h i hi
theorem kvN_yes {g : Nat → κ} {v : Nat → V} {k f : Nat} {x : κ} (hf : f < k) (e : g f = x) (h : ∀ i, i < k → g i = x → i = f) : valV (kvN g v k) x = some (v f) :=
  valV_yes (fun p hp ep => by
    obtain ⟨i, hi, rfl⟩ := kvN_mem hp
    rw [h i hi ep]) ⟨(g f, v f), List.mem_map.mpr ⟨f, List.mem_range.mpr hf, rfl⟩, e⟩
end
/-! the text of differences tells them -/
def one1 (t : Str) : Prop := t.length = 1
theorem app_inj {a b c d : Str} (h : a ++ b = c ++ d) (hl : a.length = c.length) : a = c ∧ b = d := by
  have e : (a ++ b).cps.toList = (c ++ d).cps.toList := by rw [h]
  have e2 : a.cps.toList ++ b.cps.toList = c.cps.toList ++ d.cps.toList := by
    have e1 : (a ++ b).cps = a.cps ++ b.cps := rfl
    have e3 : (c ++ d).cps = c.cps ++ d.cps := rfl
    rw [e1, e3, Array.toList_append, Array.toList_append] at e
    exact e
  obtain ⟨q1, q2⟩ := List.append_inj e2 (by simpa [Str.length] using hl)
  have f : ∀ {x y : Str}, x.cps.toList = y.cps.toList → x = y := fun {x y} q => by
    cases x; cases y
    exact congrArg Str.mk (Array.toList_inj.mp q)
  exact ⟨f q1, f q2⟩
theorem len_app (a b : Str) : (a ++ b).length = a.length + b.length := by
  show (a.cps ++ b.cps).size = _
  rw [Array.size_append]; rfl
theorem textFrom_inj : ∀ (ts us : List Str) (k : Nat) (a b : Str), ts.length = us.length → a.length = b.length → (∀ t ∈ ts, t.length = 1) → (∀ t ∈ us, t.length = 1) → textFrom k a ts = textFrom k b us → a = b ∧ ts = us
  | [], [], _, a, b, _, _, _, _, e => ⟨e, rfl⟩
  | [], _ :: _, _, _, _, h, _, _, _, _ => by simp at h
  | _ :: _, [], _, _, _, h, _, _, _, _ => by simp at h
  | t :: ts, u :: us, k, a, b, hl, hab, h1, h2, e => by
    have t1 := h1 t List.mem_cons_self
    have u1 := h2 u List.mem_cons_self
    have e' : textFrom (k + 1) (a ++ (if k > 0 then ", " else "" : String) ++ t) ts = textFrom (k + 1) (b ++ (if k > 0 then ", " else "" : String) ++ u) us := e
    obtain ⟨q1, q2⟩ := textFrom_inj ts us (k + 1) _ _ (by simpa using hl) (by rw [len_app, len_app, len_app, len_app, hab, t1, u1]) (fun x hx => h1 x (List.mem_cons_of_mem _ hx)) (fun x hx => h2 x (List.mem_cons_of_mem _ hx)) e'
    obtain ⟨q3, q4⟩ := app_inj q1 (by rw [len_app, len_app, hab])
    obtain ⟨q5, _⟩ := app_inj q3 hab
    exact ⟨q5, by rw [q4, q2]⟩
theorem dig_text {a : Int} (h : 0 ≤ a ∧ a ≤ 9) : PyData.shown (.int a) = ⟨#[48 + a.toNat]⟩ := by
  have : a = 0 ∨ a = 1 ∨ a = 2 ∨ a = 3 ∨ a = 4 ∨ a = 5 ∨ a = 6 ∨ a = 7 ∨ a = 8 ∨ a = 9 := by omega
  rcases this with rfl | rfl | rfl | rfl | rfl | rfl | rfl | rfl | rfl | rfl <;> decide +kernel
theorem shownAll_map : ∀ l : List Int, PyData.shownAll (l.map PyData.int) = l.map fun i => PyData.shown (.int i)
  | [] => rfl
  | x :: l => by
    show PyData.shown (.int x) :: PyData.shownAll (l.map PyData.int) = _
    rw [shownAll_map l]; rfl
theorem map_text_inj : ∀ {l m : List Int}, (∀ x ∈ l, 0 ≤ x ∧ x ≤ 9) → (∀ x ∈ m, 0 ≤ x ∧ x ≤ 9) → (l.map fun i => PyData.shown (.int i)) = (m.map fun i => PyData.shown (.int i)) → l = m
  | [], [], _, _, _ => rfl
  | [], _ :: _, _, _, h => by simp at h
  | _ :: _, [], _, _, h => by simp at h
  | x :: l, y :: m, hl, hm, h => by
    have h1 := hl x List.mem_cons_self
    have h2 := hm y List.mem_cons_self
    rw [List.map_cons, List.map_cons, List.cons.injEq] at h
    obtain ⟨e1, e2⟩ := h
    rw [dig_text h1, dig_text h2] at e1
    have e3 : #[48 + x.toNat] = #[48 + y.toNat] := congrArg Str.cps e1
    have e4 : 48 + x.toNat = 48 + y.toNat := by simpa using e3
    rw [show x = y by omega, map_text_inj (fun z hz => hl z (List.mem_cons_of_mem _ hz)) (fun z hz => hm z (List.mem_cons_of_mem _ hz)) e2]
theorem shown_inj {l m : List Int} (hl : ∀ x ∈ l, 0 ≤ x ∧ x ≤ 9) (hm : ∀ x ∈ m, 0 ≤ x ∧ x ≤ 9) (h : l.length = m.length) (e : PyData.shown (.list (l.map PyData.int)) = PyData.shown (.list (m.map PyData.int))) : l = m := by
  have e' : listText (PyData.shownAll (l.map PyData.int)) = listText (PyData.shownAll (m.map PyData.int)) := by simpa only [PyData.shown] using e
  rw [shownAll_map, shownAll_map] at e'
  have d1 : ∀ (k : List Int), (∀ x ∈ k, 0 ≤ x ∧ x ≤ 9) → ∀ t ∈ k.map (fun i => PyData.shown (.int i)), t.length = 1 := fun k hk t ht => by
    obtain ⟨x, hx, rfl⟩ := List.mem_map.mp ht
    rw [dig_text (hk x hx)]; rfl
  have len : ∀ (ts us : List Str) (k : Nat) (a b : Str), ts.length = us.length → a.length = b.length → (∀ t ∈ ts, t.length = 1) → (∀ t ∈ us, t.length = 1) → (textFrom k a ts).length = (textFrom k b us).length := by
    intro ts
    induction ts with
    | nil => intro us k a b h1 h2 _ _; cases us with
      | nil => exact h2
      | cons _ _ => simp at h1
    | cons t ts ih => intro us k a b h1 h2 h3 h4; cases us with
      | nil => simp at h1
      | cons u us => exact ih us (k + 1) _ _ (by simpa using h1) (by rw [len_app, len_app, len_app, len_app, h2, h3 t List.mem_cons_self, h4 u List.mem_cons_self]) (fun x hx => h3 x (List.mem_cons_of_mem _ hx)) (fun x hx => h4 x (List.mem_cons_of_mem _ hx))
  unfold listText at e'
  obtain ⟨q1, _⟩ := app_inj e' (len _ _ _ _ _ (by rw [List.length_map, List.length_map, h]) rfl (d1 l hl) (d1 m hm))
  exact map_text_inj hl hm (textFrom_inj _ _ _ _ _ (by rw [List.length_map, List.length_map, h]) rfl (d1 l hl) (d1 m hm) q1).2
end Lc
namespace Lc
open PySem PySem.Spec PyProof.Rows L2
theorem room1 {k : Nat} {A : Around} (r : Room k A) : A.units + 1 < cLine := by have := r.un; omega
theorem room65 {k : Nat} {A : Around} (r : Room k A) : A.units + 65 < cLine := by have := r.un; omega
theorem eqv_tup (ns ms : List Int) : PyData.eqv (.tuple (ns.map PyData.int)) (.tuple (ms.map PyData.int)) = decide (ns = ms) := by
  show PyData.eqvAll _ _ = _
  exact PySem.W.ked_eqvAll ns ms
end Lc
namespace Lc
open PySem PySem.Spec PyProof.Rows L2
/-! rounds far away -/
section
variable {cs bs : List Int} {N f : Nat}
theorem Rep.far (F : IsFeed cs bs) (R : Rep cs bs N f) (r : Nat) : ∀ q : Nat, rn cs bs (f + q * (N - f) + r) = (rn cs bs (f + r)).map (· + (q : Int) * growth cs bs N f)
  | 0 => by
    rw [Nat.zero_mul, Nat.add_zero]
    conv => lhs; rw [← List.map_id (rn cs bs (f + r))]
    refine List.map_congr_left fun x _ => ?_
    show x = x + ((0 : Nat) : Int) * _
    simp
  | q + 1 => by
    have hlt := R.lt
    have e : f + (q + 1) * (N - f) + r = N + (q * (N - f) + r) := by
      rw [Nat.add_mul]; omega
    rw [e, R.shift F, show f + (q * (N - f) + r) = f + q * (N - f) + r by omega, R.far F r q, List.map_map]
    refine List.map_congr_left fun x _ => ?_
    show x + (q : Int) * _ + _ = x + ((q + 1 : Nat) : Int) * _
    rw [Int.natCast_add, Int.add_mul]
    simp
    omega
theorem Rep.at (F : IsFeed cs bs) (R : Rep cs bs N f) {c : Int} (h : (f : Int) ≤ c) :
    0 ≤ (c - f) / ((N : Int) - f) ∧ 0 ≤ (c - f) % ((N : Int) - f) ∧ (f : Int) + (c - f) % ((N : Int) - f) < N ∧ (c - f) / ((N : Int) - f) ≤ c ∧
    (rn cs bs ((f : Int) + (c - f) % ((N : Int) - f)).toNat).map (· + (c - f) / ((N : Int) - f) * growth cs bs N f) = rn cs bs c.toNat := by
  have hlt := R.lt
  have hp : 0 < (N : Int) - f := by omega
  have h1 := Int.emod_nonneg (c - f) (b := (N : Int) - f) (by omega)
  have h2 := Int.emod_lt_of_pos (c - f) hp
  have h3 := Int.mul_ediv_add_emod (c - f) ((N : Int) - f)
  have h4 : 0 ≤ (c - f) / ((N : Int) - f) := Int.ediv_nonneg (by omega) (by omega)
  generalize (c - f) / ((N : Int) - f) = Q at h3 h4 ⊢
  generalize (c - f) % ((N : Int) - f) = M at h1 h2 h3 ⊢
  obtain ⟨q, rfl⟩ := Int.eq_ofNat_of_zero_le h4
  obtain ⟨r, rfl⟩ := Int.eq_ofNat_of_zero_le h1
  have e1 : ((N : Int) - f) * (q : Int) = ((q * (N - f) : Nat) : Int) := by
    rw [Int.natCast_mul, Int.natCast_sub (by omega), Int.mul_comm]
  have hle : 1 * (q : Int) ≤ ((N : Int) - f) * (q : Int) := Int.mul_le_mul_of_nonneg_right (by omega) (by omega)
  rw [e1] at h3
  refine ⟨by omega, by omega, by omega, by omega, ?_⟩
  rw [show ((f : Int) + (r : Int)).toNat = f + r by omega, ← R.far F r q, show c.toNat = f + q * (N - f) + r by omega]
end
end Lc

namespace Lc
open PySem PySem.Spec PyProof.Rows L2
/-! the cards of a feed by their numbers -/
/-- the columns before card n of the feed -/
def ccols (cs bs : List Int) (n : Nat) : List Int := ends (rn cs bs (n / bs.length)) (bs.take (n % bs.length))
theorem ccols_len {cs bs : List Int} (n : Nat) : (ccols cs bs n).length = cs.length := by
  unfold ccols ends
  rw [play_cols, rn_len]
theorem ccols_ne {cs bs : List Int} (F : IsFeed cs bs) (n : Nat) : ccols cs bs n ≠ [] := fun e => F.ne (List.length_eq_zero_iff.mp (by rw [← ccols_len (bs := bs) n, e]; rfl))
theorem ccols_zero (cs bs : List Int) : ccols cs bs 0 = cs := by
  unfold ccols
  rw [Nat.zero_div, Nat.zero_mod]
  rfl
theorem ccols_succ {cs bs : List Int} (F : IsFeed cs bs) (n : Nat) {x : Int} (hx : bs[n % bs.length]? = some x) : ccols cs bs (n + 1) = (ccols cs bs n).set (low false (ccols cs bs n)) (mn (ccols cs bs n) + x) := by
  have b0 := F.b0
  have hlt := Nat.mod_lt n (show bs.length > 0 by omega)
  have e1 : ends (rn cs bs (n / bs.length)) (bs.take (n % bs.length + 1)) = (ccols cs bs n).set (low false (ccols cs bs n)) (mn (ccols cs bs n) + x) := by
    unfold ccols ends
    rw [play_take hx]
    rfl
  rw [← e1]
  have hd := Nat.div_add_mod n bs.length
  by_cases h : n % bs.length + 1 < bs.length
  · have e2 : (n + 1) / bs.length = n / bs.length ∧ (n + 1) % bs.length = n % bs.length + 1 := by
      refine Nat.div_mod_unique (by omega) |>.mpr ⟨?_, h⟩
      omega
    unfold ccols
    rw [e2.1, e2.2]
  · have e2 : (n + 1) / bs.length = n / bs.length + 1 ∧ (n + 1) % bs.length = 0 := by
      refine Nat.div_mod_unique (by omega) |>.mpr ⟨?_, by omega⟩
      rw [Nat.mul_add]
      omega
    unfold ccols
    rw [e2.1, e2.2, List.take_zero, List.take_of_length_le (i := n % bs.length + 1) (by omega)]
    rfl
theorem fmod_nat (n k : Nat) : ((n : Nat) : Int).fmod ((k : Nat) : Int) = ((n % k : Nat) : Int) := by
  rw [Int.fmod_eq_emod_of_nonneg _ (by omega), Int.natCast_emod]
/-- the top of card n -/
def tp (cs bs : List Int) (n : Nat) : Int := mn (ccols cs bs n)
section
variable {cs bs : List Int} {N f : Nat}
theorem card_at (F : IsFeed cs bs) (n : Nat) : ∃ x, bs[n % bs.length]? = some x ∧ 1 ≤ x ∧ x ≤ 9 := by
  have b0 := F.b0
  have hlt := Nat.mod_lt n (show bs.length > 0 by omega)
  exact ⟨_, List.getElem?_eq_getElem hlt, F.b _ (List.getElem_mem hlt)⟩
theorem set_facts {l : List Int} (ne : l ≠ []) {x : Int} (hx : 0 ≤ x) : mn l ≤ mn (l.set (low false l) (mn l + x)) ∧ (l.set (low false l) (mn l + x)).sum = l.sum + x := by
  obtain ⟨r, p1, p2⟩ := put_cols false ([], l) x ne
  have m0 := mn_spec ne
  have m1 := mn_spec (put_ne (r := false) (s := ([], l)) (h := x) ne)
  refine ⟨?_, ?_⟩
  · show mn l ≤ mn (put false ([], l) x).2
    rcases List.mem_cons.mp (p2.subset m1.1) with e | e
    · rw [e]; show mn l ≤ mn l + x; omega
    · exact m0.2 _ (p1.subset (List.mem_cons_of_mem _ e))
  · have e1 := perm_sum p1
    have e2 := perm_sum p2
    rw [List.sum_cons] at e1 e2
    have e1' : mn l + r.sum = l.sum := e1
    have e2' : (l.set (low false l) (mn l + x)).sum = mn l + x + r.sum := e2
    omega
theorem tp_succ (F : IsFeed cs bs) (n : Nat) : tp cs bs n ≤ tp cs bs (n + 1) := by
  obtain ⟨x, hx, x0, _⟩ := card_at F n
  unfold tp
  rw [ccols_succ F n hx]
  exact (set_facts (ccols_ne F n) (by omega)).1
theorem tp_le (F : IsFeed cs bs) {m : Nat} : ∀ k, tp cs bs m ≤ tp cs bs (m + k)
  | 0 => Int.le_refl _
  | k + 1 => Int.le_trans (tp_le F k) (tp_succ F (m + k))
theorem tp_mono (F : IsFeed cs bs) {m n : Nat} (h : m ≤ n) : tp cs bs m ≤ tp cs bs n := by
  have := tp_le F (m := m) (n - m)
  rwa [show m + (n - m) = n by omega] at this
theorem ccols_sum (F : IsFeed cs bs) : ∀ n : Nat, (n : Int) ≤ (ccols cs bs n).sum
  | 0 => by
    rw [ccols_zero]
    have := mul_le_sum (B := 0) (l := cs) fun c hc => (F.c c hc).1
    simpa using this
  | n + 1 => by
    obtain ⟨x, hx, x0, _⟩ := card_at F n
    have ih := ccols_sum F n
    rw [ccols_succ F n hx, (set_facts (ccols_ne F n) (by omega)).2]
    omega
theorem ccols_spread (F : IsFeed cs bs) (n : Nat) : ∀ c ∈ ccols cs bs n, c ≤ tp cs bs n + 9 :=
  fold_spread false 9 (bs.take (n % bs.length)) ([], rn cs bs (n / bs.length)) (rn_ne F.ne _) (fun h hh => by have := F.b h (List.mem_of_mem_take hh); omega) fun c hc => (rn_spread F _ c hc).2
theorem rn_nonneg (F : IsFeed cs bs) : ∀ n, ∀ c ∈ rn cs bs n, 0 ≤ c
  | 0, c, hc => (F.c c hc).1
  | n + 1, c, hc => by
    have ih := rn_nonneg F n
    have sp := rn_spread F n
    have q := fold_high false 9 bs ([], rn cs bs n) (mn (rn cs bs n) + 9) (rn_ne F.ne n) (fun h hh => by have := F.b h hh; omega) (fun c hc => ⟨ih c hc, (sp c hc).2⟩) (fun t ht => by cases ht) (by decide)
    exact (q.1 c hc).1
theorem tp_nonneg (F : IsFeed cs bs) (n : Nat) : 0 ≤ tp cs bs n := by
  have h0 : 0 ≤ tp cs bs 0 := by
    unfold tp
    rw [ccols_zero]
    exact (F.c _ (mn_spec F.ne).1).1
  exact Int.le_trans h0 (tp_mono F (Nat.zero_le n))
theorem tp_big (F : IsFeed cs bs) (n : Nat) : (n : Int) ≤ 4 * (tp cs bs n + 9) := by
  have h1 := ccols_sum F n
  have h2 := sum_le_mul (B := tp cs bs n + 9) (l := ccols cs bs n) (ccols_spread F n)
  rw [ccols_len] at h2
  have h3 := tp_nonneg F n
  have l1 := F.l1
  have h4 : (cs.length : Int) * (tp cs bs n + 9) ≤ 4 * (tp cs bs n + 9) := Int.mul_le_mul_of_nonneg_right (by omega) (by omega)
  omega
/-- the first card whose top is at least L -/
def Fst (cs bs : List Int) (L : Int) (r : Nat) : Prop := L ≤ tp cs bs r ∧ ∀ m, m < r → tp cs bs m < L
theorem fst_ex (F : IsFeed cs bs) (L : Int) : ∃ r, Fst cs bs L r := by
  have hb := tp_big F (4 * (L.natAbs + 9))
  obtain ⟨r, _, h1, h2⟩ := least_nat (p := fun n => L ≤ tp cs bs n) (4 * (L.natAbs + 9)) (by omega)
  exact ⟨r, h1, fun m hm => by have := h2 m hm; omega⟩
theorem fst_le (F : IsFeed cs bs) {L : Int} {r : Nat} (h : Fst cs bs L r) (hL : 0 ≤ L) : (r : Int) ≤ 4 * L + 40 := by
  cases r with
  | zero => omega
  | succ k =>
    have h1 := h.2 k (by omega)
    have h2 := tp_big F k
    omega
theorem fst_uniq {L : Int} {r r' : Nat} (h : Fst cs bs L r) (h' : Fst cs bs L r') : r = r' := by
  rcases Nat.lt_trichotomy r r' with c | c | c
  · have := h'.2 r c
    have := h.1
    omega
  · exact c
  · have := h.2 r' c
    have := h'.1
    omega
theorem ccols_shift (F : IsFeed cs bs) (R : Rep cs bs N f) {n : Nat} (hn : f * bs.length ≤ n) : ccols cs bs (n + (N - f) * bs.length) = (ccols cs bs n).map (· + growth cs bs N f) := by
  have b0 := F.b0
  have hlt := R.lt
  have e1 : (n + (N - f) * bs.length) / bs.length = n / bs.length + (N - f) := Nat.add_mul_div_right _ _ (by omega)
  have e2 : (n + (N - f) * bs.length) % bs.length = n % bs.length := Nat.add_mul_mod_self_right _ _ _
  have hf : f ≤ n / bs.length := (Nat.le_div_iff_mul_le (by omega)).mpr hn
  unfold ccols
  rw [e1, e2, show n / bs.length + (N - f) = N + (n / bs.length - f) by omega, R.shift F, show f + (n / bs.length - f) = n / bs.length by omega, ends_add (rn_ne F.ne _)]
theorem tp_shift (F : IsFeed cs bs) (R : Rep cs bs N f) {n : Nat} (hn : f * bs.length ≤ n) : ∀ q : Nat, tp cs bs (n + q * ((N - f) * bs.length)) = tp cs bs n + (q : Int) * growth cs bs N f
  | 0 => by simp
  | q + 1 => by
    have ih := tp_shift F R hn q
    have e : n + (q + 1) * ((N - f) * bs.length) = n + q * ((N - f) * bs.length) + (N - f) * bs.length := by rw [Nat.add_mul]; omega
    rw [e]
    unfold tp at ih ⊢
    rw [ccols_shift F R (Nat.le_trans hn (Nat.le_add_right _ _)), mn_add (ccols_ne F _), ih, Int.natCast_add, Int.add_mul]
    simp
    omega
theorem tp_at (F : IsFeed cs bs) (n : Nat) : tp cs bs (n * bs.length) = mn (rn cs bs n) := by
  have b0 := F.b0
  unfold tp ccols
  rw [Nat.mul_mod_left, Nat.mul_div_cancel _ (by omega)]
  rfl
theorem fst_far (F : IsFeed cs bs) (R : Rep cs bs N f) {L : Int} {r q : Nat} (h : Fst cs bs (L - (q : Int) * growth cs bs N f) r) (hq : q = 0 ∨ mn (rn cs bs f) < L - (q : Int) * growth cs bs N f) : Fst cs bs L (r + q * ((N - f) * bs.length)) := by
  rcases hq with rfl | hq
  · simpa using h
  · rw [← tp_at F f] at hq
    have hr : f * bs.length < r := by
      refine Nat.lt_of_not_le fun c => ?_
      have := tp_mono F c
      have := h.1
      omega
    refine ⟨?_, fun m hm => ?_⟩
    · rw [tp_shift F R (Nat.le_of_lt hr)]
      have := h.1
      omega
    · obtain ⟨r', rfl⟩ : ∃ r', r = r' + 1 := ⟨r - 1, by omega⟩
      have h1 := h.2 r' (by omega)
      have h2 := tp_shift F R (n := r') (by omega) q
      have h3 := tp_mono F (show m ≤ r' + q * ((N - f) * bs.length) by omega)
      omega
end
end Lc

namespace Lc
open PySem PySem.Spec PyProof.Rows L2
/-! doubled blocks, lifted starts -/
theorem fold_snd (r : Bool) : ∀ (hs : List Int) (p p' : List (Nat × Int)) (c : List Int), (hs.foldl (put r) (p, c)).2 = (hs.foldl (put r) (p', c)).2
  | [], _, _, _ => rfl
  | h :: hs, p, p', c => fold_snd r hs _ _ _
theorem ends_app (cs xs ys : List Int) : ends cs (xs ++ ys) = ends (ends cs xs) ys := by
  unfold ends
  rw [play_append]
  exact fold_snd false ys _ [] _
section
variable {cs bs : List Int} {N f : Nat}
theorem rn_double : ∀ n, rn cs (bs ++ bs) n = rn cs bs (2 * n)
  | 0 => rfl
  | n + 1 => by
    show ends (rn cs (bs ++ bs) n) (bs ++ bs) = _
    rw [rn_double n, ends_app, show 2 * (n + 1) = 2 * n + 1 + 1 by omega]
    rfl
theorem dif_per (F : IsFeed cs bs) (R : Rep cs bs N f) (q k : Nat) : dif (rn cs bs (f + q * (N - f) + k)) = dif (rn cs bs (f + k)) := by
  rw [R.far F k q, dif_add (rn_ne F.ne _)]
/-- the same differences: at the same place of the period -/
theorem dif_red (F : IsFeed cs bs) (R : Rep cs bs N f) {i j : Nat} (hi : f ≤ i) (hj : f ≤ j) (e : dif (rn cs bs i) = dif (rn cs bs j)) : (i - f) % (N - f) = (j - f) % (N - f) := by
  have hlt := R.lt
  have red : ∀ n, f ≤ n → dif (rn cs bs n) = dif (rn cs bs (f + (n - f) % (N - f))) := fun n hn => by
    have hd := Nat.div_add_mod (n - f) (N - f)
    have := dif_per F R ((n - f) / (N - f)) ((n - f) % (N - f))
    rw [← this, Nat.mul_comm ((n - f) / (N - f)), show f + (N - f) * ((n - f) / (N - f)) + (n - f) % (N - f) = n by omega]
  rw [red i hi, red j hj] at e
  have h1 := Nat.mod_lt (i - f) (show N - f > 0 by omega)
  have h2 := Nat.mod_lt (j - f) (show N - f > 0 by omega)
  by_cases h : f + (i - f) % (N - f) = f + (j - f) % (N - f)
  · omega
  · exact absurd e (R.ne (by omega) (by omega) h)
theorem dif_pre (F : IsFeed cs bs) (R : Rep cs bs N f) {i j : Nat} (hi : i < f) (hij : i < j) : dif (rn cs bs i) ≠ dif (rn cs bs j) := fun e => by
  have hlt := R.lt
  by_cases hj : j < N
  · exact R.inj i j hij hj e
  · have hd := Nat.div_add_mod (j - f) (N - f)
    have h2 := Nat.mod_lt (j - f) (show N - f > 0 by omega)
    have := dif_per F R ((j - f) / (N - f)) ((j - f) % (N - f))
    rw [Nat.mul_comm ((j - f) / (N - f)), show f + (N - f) * ((j - f) / (N - f)) + (j - f) % (N - f) = j by omega] at this
    rw [this] at e
    exact R.inj i (f + (j - f) % (N - f)) (by omega) (by omega) e
/-- the doubled block's first and period -/
def dF (f : Nat) : Nat := (f + 1) / 2
def dP (p : Nat) : Nat := if p % 2 = 1 then p else p / 2
theorem rep_double (F : IsFeed cs bs) (R : Rep cs bs N f) : Rep cs (bs ++ bs) (dF f + dP (N - f)) (dF f) := by
  have hlt := R.lt
  have hle := R.le
  have hP : 0 < dP (N - f) ∧ (dP (N - f) ≤ N - f) := by unfold dP; split <;> omega
  have hF : f ≤ 2 * dF f ∧ 2 * dF f ≤ f + 1 := by unfold dF; omega
  have hq : ∃ q, 2 * dP (N - f) = q * (N - f) := by
    unfold dP
    split
    · exact ⟨2, rfl⟩
    · exact ⟨1, by omega⟩
  refine ⟨by omega, ?_, fun i j hij hj e => ?_, by unfold dF; omega⟩
  · obtain ⟨q, hq⟩ := hq
    rw [rn_double, rn_double, show 2 * (dF f + dP (N - f)) = f + q * (N - f) + (2 * dF f - f) by omega, dif_per F R, show f + (2 * dF f - f) = 2 * dF f by omega]
  · rw [rn_double, rn_double] at e
    by_cases h : 2 * i < f
    · exact dif_pre F R h (by omega) e
    · have hm := dif_red F R (by omega) (by omega) e
      have hs := Nat.sub_mod_eq_zero_of_mod_eq hm.symm
      rw [show 2 * j - f - (2 * i - f) = 2 * (j - i) by omega] at hs
      have hi : dF f ≤ i := by unfold dF; omega
      obtain ⟨k, hk⟩ := Nat.dvd_of_mod_eq_zero hs
      have hd : 0 < j - i ∧ j - i < dP (N - f) := by omega
      generalize j - i = d at hk hd
      unfold dP at hd
      have k0 : k ≠ 0 := fun z => by rw [z, Nat.mul_zero] at hk; omega
      split at hd
      · have hk2 : k < 2 := by
          refine Nat.lt_of_not_le fun c => ?_
          have : (N - f) * 2 ≤ (N - f) * k := Nat.mul_le_mul_left _ c
          omega
        have : k = 1 := by omega
        subst this
        omega
      · have : (N - f) * 1 ≤ (N - f) * k := Nat.mul_le_mul_left _ (by omega)
        omega
theorem head_add {l : List Int} (h : l ≠ []) (d : Int) : (l.map (· + d)).headD 0 = l.headD 0 + d := by
  cases l with
  | nil => exact absurd rfl h
  | cons x l => rfl
theorem growth_double (F : IsFeed cs bs) (R : Rep cs bs N f) : growth cs (bs ++ bs) (dF f + dP (N - f)) (dF f) = growth cs bs N f * (1 + ((N - f) % 2 : Nat)) := by
  have hlt := R.lt
  have hF : f ≤ 2 * dF f := by unfold dF; omega
  have hq : 2 * dP (N - f) = (1 + (N - f) % 2) * (N - f) := by
    unfold dP
    split
    · rename_i h; rw [h]
    · rename_i h
      rw [show (N - f) % 2 = 0 by omega]
      omega
  unfold growth
  rw [rn_double, rn_double, show 2 * (dF f + dP (N - f)) = f + (1 + (N - f) % 2) * (N - f) + (2 * dF f - f) by omega, R.far F, head_add (rn_ne F.ne _), show f + (2 * dF f - f) = 2 * dF f by omega]
  unfold growth
  rw [Int.mul_comm (_ - _), Int.natCast_add]
  simp only [Int.natCast_one]
  omega
theorem app_mod {l : List Int} (h : 0 < l.length) (n : Nat) : (l ++ l)[n % (l ++ l).length]? = l[n % l.length]? := by
  rw [List.length_append]
  have h1 := Nat.mod_lt n (show l.length + l.length > 0 by omega)
  have hd := Nat.div_add_mod n (l.length + l.length)
  generalize n % (l.length + l.length) = r at h1 hd ⊢
  generalize n / (l.length + l.length) = q at hd
  by_cases c : r < l.length
  · have : n % l.length = r := by
      rw [← hd, show (l.length + l.length) * q + r = r + l.length * (2 * q) by rw [Nat.add_mul, Nat.mul_left_comm]; omega, Nat.add_mul_mod_self_left, Nat.mod_eq_of_lt c]
    rw [this, List.getElem?_append_left c]
  · have : n % l.length = r - l.length := by
      rw [← hd, show (l.length + l.length) * q + r = (r - l.length) + l.length * (2 * q + 1) by rw [Nat.add_mul, Nat.mul_add, Nat.mul_left_comm]; omega, Nat.add_mul_mod_self_left, Nat.mod_eq_of_lt (by omega)]
    rw [this, List.getElem?_append_right (by omega)]
theorem ccols_double (F : IsFeed cs bs) (F2 : IsFeed cs (bs ++ bs)) : ∀ n, ccols cs (bs ++ bs) n = ccols cs bs n
  | 0 => by rw [ccols_zero, ccols_zero]
  | n + 1 => by
    obtain ⟨x, hx, _, _⟩ := card_at F n
    have hx2 : (bs ++ bs)[n % (bs ++ bs).length]? = some x := by rw [app_mod (by have := F.b0; omega)]; exact hx
    rw [ccols_succ F n hx, ccols_succ F2 n hx2, ccols_double F F2 n]
theorem feed_double (F : IsFeed cs bs) (h : bs.length ≤ 15) : IsFeed cs (bs ++ bs) := ⟨F.l0, F.l1, F.c, by rw [List.length_append]; have := F.b0; omega, by rw [List.length_append]; omega, fun x hx => by
  rcases List.mem_append.mp hx with hx | hx <;> exact F.b x hx⟩
/-- a lifted start -/
theorem rn_lift (h : cs ≠ []) (d : Int) : ∀ n, rn (cs.map (· + d)) bs n = (rn cs bs n).map (· + d)
  | 0 => rfl
  | n + 1 => by
    show ends (rn (cs.map (· + d)) bs n) bs = (ends (rn cs bs n) bs).map _
    rw [rn_lift h d n, ends_add (rn_ne h n)]
theorem rep_lift (F : IsFeed cs bs) (R : Rep cs bs N f) (d : Int) : Rep (cs.map (· + d)) bs N f :=
  ⟨R.lt, by rw [rn_lift F.ne, rn_lift F.ne, dif_add (rn_ne F.ne _), dif_add (rn_ne F.ne _)]; exact R.eq, fun i j h1 h2 e => by
    rw [rn_lift F.ne, rn_lift F.ne, dif_add (rn_ne F.ne _), dif_add (rn_ne F.ne _)] at e
    exact R.inj i j h1 h2 e, R.le⟩
theorem growth_lift (F : IsFeed cs bs) (d : Int) : growth (cs.map (· + d)) bs N f = growth cs bs N f := by
  unfold growth
  rw [rn_lift F.ne, rn_lift F.ne, head_add (rn_ne F.ne _), head_add (rn_ne F.ne _)]
  omega
/-- a column grows by 9 with each card at most -/
theorem fold_up9 (r : Bool) : ∀ (hs : List Int) (s : List (Nat × Int) × List Int), s.2 ≠ [] → (∀ h ∈ hs, 0 ≤ h ∧ h ≤ 9) → ∀ (i : Nat) (x y : Int), s.2[i]? = some x → (hs.foldl (put r) s).2[i]? = some y → y ≤ x + 9 * hs.length
  | [], s, _, _, i, x, y, h1, h2 => by
    have h2 : s.2[i]? = some y := h2
    rw [h1] at h2
    cases h2
    simp
  | h :: hs, s, hne, hp, i, x, y, h1, h2 => by
    have h0 := hp h List.mem_cons_self
    have hi : i < s.2.length := (List.getElem?_eq_some_iff.mp h1).1
    have hz : ∃ z, (put r s h).2[i]? = some z ∧ z ≤ x + 9 := by
      show ∃ z, (s.2.set (low r s.2) (mn s.2 + h))[i]? = some z ∧ z ≤ x + 9
      by_cases c : low r s.2 = i
      · have hg := low_get (r := r) hne
        rw [c, h1] at hg
        cases hg
        exact ⟨mn s.2 + h, by rw [← c, List.getElem?_set_self (low_lt hne)], by omega⟩
      · exact ⟨x, by rw [List.getElem?_set_ne c]; exact h1, by omega⟩
    obtain ⟨z, ez, hz⟩ := hz
    have ih := fold_up9 r hs (put r s h) (put_ne hne) (fun x hx => hp x (List.mem_cons_of_mem _ hx)) i z y ez h2
    rw [List.length_cons]
    omega
theorem top_up (F : IsFeed cs bs) (n : Nat) : ∃ x, (rn cs bs (n / bs.length))[low false (ccols cs bs n)]? = some x ∧ tp cs bs n < x + 9 * bs.length := by
  have hg := low_get (r := false) (ccols_ne F n)
  have hl := low_lt (r := false) (ccols_ne F n)
  rw [ccols_len] at hl
  have b0 := F.b0
  have hmod := Nat.mod_lt n (show bs.length > 0 by omega)
  have hx : low false (ccols cs bs n) < (rn cs bs (n / bs.length)).length := by rw [rn_len]; exact hl
  refine ⟨_, List.getElem?_eq_getElem hx, ?_⟩
  have := fold_up9 false (bs.take (n % bs.length)) ([], rn cs bs (n / bs.length)) (rn_ne F.ne _) (fun h hh => by have := F.b h (List.mem_of_mem_take hh); omega) _ _ _ (List.getElem?_eq_getElem hx) hg
  rw [List.length_take] at this
  have e : tp cs bs n = mn (ccols cs bs n) := rfl
  omega
end
end Lc

namespace Lc
open PySem PySem.Spec PyProof.Rows L2
/-! ### tops card by card -/
def nx (cs : List Int) (h : Int) : List Int := (put false ([], cs) h).2
theorem fold_fst (r : Bool) : ∀ (hs : List Int) (p : List (Nat × Int)) (c : List Int), (hs.foldl (put r) (p, c)).1 = p ++ (hs.foldl (put r) ([], c)).1
  | [], p, c => (List.append_nil _).symm
  | h :: hs, p, c => by
    show (hs.foldl (put r) (put r (p, c) h)).1 = p ++ (hs.foldl (put r) (put r ([], c) h)).1
    rw [fold_fst r hs (put r (p, c) h).1, fold_fst r hs (put r ([], c) h).1]
    show (p ++ [_]) ++ _ = p ++ (([] ++ [_]) ++ _)
    rw [List.nil_append, List.append_assoc]
    rfl
theorem tops_cons (cs hs : List Int) (h : Int) : tops cs (h :: hs) = mn cs :: tops (nx cs h) hs := by
  unfold tops play
  show ((hs.foldl (put false) (put false ([], cs) h)).1).map (·.2) = _
  rw [fold_fst false hs (put false ([], cs) h).1]
  rfl
theorem ends_cons (cs hs : List Int) (h : Int) : ends cs (h :: hs) = ends (nx cs h) hs := by
  show (hs.foldl (put false) (put false ([], cs) h)).2 = (hs.foldl (put false) ([], nx cs h)).2
  exact fold_snd false hs _ [] _
theorem tops_app : ∀ (xs cs ys : List Int), tops cs (xs ++ ys) = tops cs xs ++ tops (ends cs xs) ys
  | [], cs, ys => rfl
  | x :: xs, cs, ys => by
    rw [List.cons_append, tops_cons, tops_cons, ends_cons, tops_app xs, List.cons_append]
theorem nx_ne {cs : List Int} {h : Int} (hne : cs ≠ []) : nx cs h ≠ [] := put_ne (s := ([], cs)) hne
theorem ends_ne : ∀ (hs cs : List Int), cs ≠ [] → ends cs hs ≠ []
  | [], cs, h => h
  | x :: hs, cs, h => by rw [ends_cons]; exact ends_ne hs _ (nx_ne h)
/-! ### B is at most d higher than A, column by column of the sorted ones -/
def DD (d : Int) (A B : List Int) : Prop := ∀ t, cnt t A ≤ cnt (t + d) B
theorem cnt_mono {s t : Int} (h : s ≤ t) (l : List Int) : cnt s l ≤ cnt t l := by
  unfold cnt
  exact List.countP_mono_left fun c _ hc => by
    have : c ≤ s := by simpa using hc
    simp; omega
theorem DD.refl {d : Int} (h : 0 ≤ d) (A : List Int) : DD d A A := fun t => cnt_mono (by omega) A
theorem DD.trans {d e : Int} {A B C : List Int} (x : DD d A B) (y : DD e B C) : DD (d + e) A C := fun t => by
  have h1 := x t
  have h2 := y (t + d)
  rw [Int.add_assoc] at h2
  omega
theorem DD.weak {d e : Int} {A B : List Int} (x : DD d A B) (h : d ≤ e) : DD e A B := fun t => Nat.le_trans (x t) (cnt_mono (by omega) B)
theorem DD.mn {d : Int} {A B : List Int} (h : DD d A B) (hA : A ≠ []) : B ≠ [] ∧ Lc.mn B ≤ Lc.mn A + d := by
  have s := mn_spec hA
  have h1 : 0 < cnt (Lc.mn A) A := List.countP_pos_iff.mpr ⟨_, s.1, by simp⟩
  have h2 : 0 < cnt (Lc.mn A + d) B := Nat.lt_of_lt_of_le h1 (h _)
  obtain ⟨c, hc, hle⟩ := List.countP_pos_iff.mp h2
  have hB : B ≠ [] := fun e => by rw [e] at hc; cases hc
  have := (mn_spec hB).2 c hc
  have hle' : c ≤ Lc.mn A + d := by simpa using hle
  exact ⟨hB, by omega⟩
theorem nx_perm {A : List Int} (h : Int) (hA : A ≠ []) : ∃ l, (Lc.mn A :: l).Perm A ∧ (nx A h).Perm ((Lc.mn A + h) :: l) := put_cols false ([], A) h hA
theorem DD.nx {d x : Int} {A B : List Int} (h : DD d A B) (h0 : 0 ≤ x) (hA : A ≠ []) : DD d (Lc.nx A x) (Lc.nx B x) := by
  obtain ⟨hB, hm⟩ := h.mn hA
  obtain ⟨l, p1, p2⟩ := nx_perm x hA
  obtain ⟨l', p1', p2'⟩ := nx_perm x hB
  intro t
  have ht := h t
  rw [← cnt_perm p1, ← cnt_perm p1', cnt_cons, cnt_cons] at ht
  rw [cnt_perm p2, cnt_perm p2', cnt_cons, cnt_cons]
  by_cases hmt : Lc.mn A ≤ t
  · rw [if_pos hmt, if_pos (show Lc.mn B ≤ t + d by omega)] at ht
    by_cases h1 : Lc.mn A + x ≤ t
    · rw [if_pos h1, if_pos (show Lc.mn B + x ≤ t + d by omega)]; omega
    · rw [if_neg h1]; omega
  · have z : cnt t l = 0 := cnt_zero fun c hc => by
      have := (mn_spec hA).2 c (p1.subset (List.mem_cons_of_mem _ hc))
      omega
    rw [z, if_neg (show ¬ Lc.mn A + x ≤ t by omega)]
    omega
theorem two_l {A l l' : List Int} (p : (Lc.mn A :: l).Perm A) (p' : (Lc.mn A :: l').Perm A) (t : Int) : cnt t l = cnt t l' := by
  have e := (cnt_perm (t := t) p).trans (cnt_perm p').symm
  rw [cnt_cons, cnt_cons] at e
  omega
theorem nx_up {A : List Int} {x : Int} (h0 : 0 ≤ x) (hA : A ≠ []) : DD 0 (nx A x) A := fun t => by
  obtain ⟨l, p1, p2⟩ := nx_perm x hA
  rw [cnt_perm p2, ← cnt_perm (t := t + 0) p1, cnt_cons, cnt_cons, Int.add_zero]
  by_cases h : mn A + x ≤ t
  · rw [if_pos h, if_pos (by omega)]; omega
  · rw [if_neg h]; omega
theorem nx_dn {A : List Int} {x : Int} (h0 : 0 ≤ x) (hA : A ≠ []) : DD x A (nx A x) := fun t => by
  obtain ⟨l, p1, p2⟩ := nx_perm x hA
  have m := cnt_mono (show t ≤ t + x by omega) l
  rw [cnt_perm p2, ← cnt_perm (t := t) p1, cnt_cons, cnt_cons]
  by_cases h : mn A ≤ t
  · rw [if_pos h, if_pos (by omega)]; omega
  · rw [if_neg h]; omega
theorem nx_lo {A : List Int} {x y : Int} (h : x ≤ y) (hA : A ≠ []) : DD 0 (nx A y) (nx A x) := fun t => by
  obtain ⟨l, p1, p2⟩ := nx_perm x hA
  obtain ⟨l', q1, q2⟩ := nx_perm y hA
  rw [cnt_perm p2, cnt_perm q2, cnt_cons, cnt_cons, Int.add_zero, two_l q1 p1]
  by_cases h1 : mn A + y ≤ t
  · rw [if_pos h1, if_pos (by omega)]; omega
  · rw [if_neg h1]; omega
theorem nx_hi {A : List Int} {x y : Int} (h : x ≤ y) (hA : A ≠ []) : DD (y - x) (nx A x) (nx A y) := fun t => by
  obtain ⟨l, p1, p2⟩ := nx_perm x hA
  obtain ⟨l', q1, q2⟩ := nx_perm y hA
  have m := cnt_mono (show t ≤ t + (y - x) by omega) l'
  rw [cnt_perm p2, cnt_perm q2, cnt_cons, cnt_cons, two_l p1 q1]
  by_cases h1 : mn A + x ≤ t
  · rw [if_pos h1, if_pos (by omega)]; omega
  · rw [if_neg h1]; omega
/-- two cards in the other order -/
theorem exc_DD {S : List Int} {z y : Int} (h : z ≤ y) (z0 : 0 ≤ z) (hS : S ≠ []) : DD (y - z) (nx (nx S z) y) (nx (nx S y) z) ∧ DD (y - z) (nx (nx S y) z) (nx (nx S z) y) := by
  have hz : nx S z ≠ [] := nx_ne hS
  have hy : nx S y ≠ [] := nx_ne hS
  have a1 := ((nx_hi h hS).nx z0 hz)
  have a2 := nx_lo h hz
  have b1 := (nx_lo h hS).nx z0 hy
  have b2 := nx_hi h hz
  exact ⟨(a2.trans a1).weak (by omega), (b1.trans b2).weak (by omega)⟩
/-! ### tops within bounds -/
/-- v - u lies within lo and hi; the first n are the same -/
structure Bn (n : Nat) (lo hi : Int) (A B : List Int) : Prop where
  len : A.length = B.length
  el : ∀ (k : Nat) (u v : Int), A[k]? = some u → B[k]? = some v → lo ≤ v - u ∧ v - u ≤ hi ∧ (k < n → v = u)
theorem tops_bn {d e : Int} : ∀ (hs A B : List Int), DD d A B → DD e B A → A ≠ [] → (∀ h ∈ hs, 0 ≤ h) → Bn 0 (-e) d (tops A hs) (tops B hs)
  | [], A, B, _, _, _, _ => ⟨rfl, fun k u v h => by cases h⟩
  | h :: hs, A, B, x, y, hA, hp => by
    obtain ⟨hB, m1⟩ := x.mn hA
    obtain ⟨_, m2⟩ := y.mn hB
    have h0 := hp h List.mem_cons_self
    have ih := tops_bn hs (nx A h) (nx B h) (x.nx h0 hA) (y.nx h0 hB) (nx_ne hA) fun z hz => hp z (List.mem_cons_of_mem _ hz)
    rw [tops_cons, tops_cons]
    refine ⟨by rw [List.length_cons, List.length_cons, ih.len], fun k u v e1 e2 => ?_⟩
    cases k with
    | zero =>
      cases e1; cases e2
      exact ⟨by omega, by omega, fun z => absurd z (Nat.not_lt_zero _)⟩
    | succ k =>
      have := ih.el k u v (by simpa using e1) (by simpa using e2)
      exact ⟨this.1, this.2.1, fun z => absurd z (Nat.not_lt_zero _)⟩
theorem Bn.pre {lo hi : Int} {A B : List Int} (h : Bn 0 lo hi A B) (p : List Int) (l0 : lo ≤ 0) (h0 : 0 ≤ hi) : Bn p.length lo hi (p ++ A) (p ++ B) :=
  ⟨by rw [List.length_append, List.length_append, h.len], fun k u v e1 e2 => by
    by_cases hk : k < p.length
    · rw [List.getElem?_append_left hk] at e1 e2
      rw [e1] at e2
      cases e2
      exact ⟨by omega, by omega, fun _ => rfl⟩
    · rw [List.getElem?_append_right (by omega)] at e1 e2
      have := h.el _ u v e1 e2
      exact ⟨this.1, this.2.1, fun z => absurd z hk⟩⟩
theorem del_app (p : List Int) (x : Int) (q : List Int) : delAt (p ++ x :: q) p.length = p ++ q := by
  unfold delAt
  rw [List.take_left, List.drop_append, List.drop_of_length_le (by omega), show p.length + 1 - p.length = 1 by omega]
  rfl
section
variable {cs hs : List Int}
theorem ins_bn {i : Nat} {x : Int} (hne : cs ≠ []) (hp : ∀ h ∈ hs, 0 ≤ h) (hi : i ≤ hs.length) (x0 : 0 ≤ x) : Bn i 0 x (tops cs hs) (delAt (tops cs (insAt hs i x)) i) := by
  have hS := ends_ne (hs.take i) cs hne
  have e1 : tops cs hs = tops cs (hs.take i) ++ tops (ends cs (hs.take i)) (hs.drop i) := by rw [← tops_app, List.take_append_drop]
  have e2 : tops cs (insAt hs i x) = tops cs (hs.take i) ++ mn (ends cs (hs.take i)) :: tops (nx (ends cs (hs.take i)) x) (hs.drop i) := by
    unfold insAt
    rw [List.append_assoc, tops_app, List.singleton_append, tops_cons]
  have l1 : (tops cs (hs.take i)).length = i := by rw [tops_len, List.length_take]; omega
  have b := tops_bn (d := x) (e := 0) (hs.drop i) _ _ (nx_dn x0 hS) (nx_up x0 hS) hS (fun h hh => hp h (List.mem_of_mem_drop hh))
  have q := b.pre (tops cs (hs.take i)) (by omega) x0
  rw [l1] at q
  have e3 := del_app (tops cs (hs.take i)) (mn (ends cs (hs.take i))) (tops (nx (ends cs (hs.take i)) x) (hs.drop i))
  rw [l1] at e3
  rw [e1, e2, e3]
  exact q
theorem str_bn {i : Nat} {x z : Int} (hne : cs ≠ []) (hp : ∀ h ∈ hs, 0 ≤ h) (hz : hs[i]? = some z) (x0 : 0 ≤ x) : Bn (i + 1) (min 0 (x - z)) (max 0 (x - z)) (tops cs hs) (tops cs (insAt (delAt hs i) i x)) := by
  have hi := (List.getElem?_eq_some_iff.mp hz).1
  have hS := ends_ne (hs.take i) cs hne
  have e0 : hs = hs.take i ++ z :: hs.drop (i + 1) := by
    rw [← (List.getElem?_eq_some_iff.mp hz).2, ← List.drop_eq_getElem_cons hi, List.take_append_drop]
  have e1 : tops cs hs = (tops cs (hs.take i) ++ [mn (ends cs (hs.take i))]) ++ tops (nx (ends cs (hs.take i)) z) (hs.drop (i + 1)) := by
    conv => lhs; rw [e0]
    rw [tops_app, tops_cons, List.append_assoc, List.singleton_append]
  have l0 : (hs.take i).length = i := by rw [List.length_take]; omega
  have t1 : (delAt hs i).take i = hs.take i := by unfold delAt; rw [List.take_append_of_le_length (by omega), List.take_of_length_le (by omega)]
  have t2 : (delAt hs i).drop i = hs.drop (i + 1) := by unfold delAt; rw [List.drop_append, List.drop_of_length_le (by omega), l0, Nat.sub_self]; rfl
  have e2 : tops cs (insAt (delAt hs i) i x) = (tops cs (hs.take i) ++ [mn (ends cs (hs.take i))]) ++ tops (nx (ends cs (hs.take i)) x) (hs.drop (i + 1)) := by
    unfold insAt
    rw [t1, t2, List.append_assoc, tops_app, List.singleton_append, tops_cons, List.append_assoc, List.singleton_append]
  have l1 : (tops cs (hs.take i) ++ [mn (ends cs (hs.take i))]).length = i + 1 := by rw [List.length_append, tops_len, l0]; rfl
  have dd : DD (max 0 (x - z)) (nx (ends cs (hs.take i)) z) (nx (ends cs (hs.take i)) x) ∧ DD (- min 0 (x - z)) (nx (ends cs (hs.take i)) x) (nx (ends cs (hs.take i)) z) := by
    rcases Int.le_total z x with h | h
    · exact ⟨(nx_hi h hS).weak (by omega), (nx_lo h hS).weak (by omega)⟩
    · exact ⟨(nx_lo h hS).weak (by omega), (nx_hi h hS).weak (by omega)⟩
  have b := tops_bn (hs.drop (i + 1)) _ _ dd.1 dd.2 (nx_ne hS) (fun h hh => hp h (List.mem_of_mem_drop hh))
  have q := b.pre (tops cs (hs.take i) ++ [mn (ends cs (hs.take i))]) (by omega) (by omega)
  rw [l1, Int.neg_neg] at q
  rw [e1, e2]
  exact q
theorem exc_bn {i : Nat} {z y : Int} (hne : cs ≠ []) (hp : ∀ h ∈ hs, 0 ≤ h) (hz : hs[i]? = some z) (hy : hs[i + 1]? = some y) : Bn (i + 1) (min (y - z) (0 - (y - z))) (max (y - z) (0 - (y - z))) (tops cs hs) (tops cs (insAt (delAt hs i) (i + 1) z)) := by
  have hi := (List.getElem?_eq_some_iff.mp hz).1
  have hi1 := (List.getElem?_eq_some_iff.mp hy).1
  have hS := ends_ne (hs.take i) cs hne
  have d1 : hs.drop (i + 1) = y :: hs.drop (i + 1 + 1) := by rw [← (List.getElem?_eq_some_iff.mp hy).2, ← List.drop_eq_getElem_cons hi1]
  have e0 : hs = hs.take i ++ z :: y :: hs.drop (i + 1 + 1) := by
    rw [← d1, ← (List.getElem?_eq_some_iff.mp hz).2, ← List.drop_eq_getElem_cons hi, List.take_append_drop]
  have e1 : tops cs hs = (tops cs (hs.take i) ++ [mn (ends cs (hs.take i))]) ++ tops (nx (ends cs (hs.take i)) z) (y :: hs.drop (i + 1 + 1)) := by
    conv => lhs; rw [e0]
    rw [tops_app, tops_cons, List.append_assoc, List.singleton_append]
  have l0 : (hs.take i).length = i := by rw [List.length_take]; omega
  have dl : delAt hs i = hs.take i ++ y :: hs.drop (i + 1 + 1) := by unfold delAt; rw [d1]
  have t1 : (delAt hs i).take (i + 1) = hs.take i ++ [y] := by
    rw [dl, List.take_append, l0, List.take_of_length_le (by omega), show i + 1 - i = 1 by omega]; rfl
  have t2 : (delAt hs i).drop (i + 1) = hs.drop (i + 1 + 1) := by
    rw [dl, List.drop_append, l0, List.drop_of_length_le (by omega), show i + 1 - i = 1 by omega]; rfl
  have e2 : tops cs (insAt (delAt hs i) (i + 1) z) = (tops cs (hs.take i) ++ [mn (ends cs (hs.take i))]) ++ tops (nx (ends cs (hs.take i)) y) (z :: hs.drop (i + 1 + 1)) := by
    unfold insAt
    rw [t1, t2, List.append_assoc, List.append_assoc, tops_app, List.singleton_append, List.singleton_append, tops_cons, List.append_assoc, List.singleton_append]
  have l1 : (tops cs (hs.take i) ++ [mn (ends cs (hs.take i))]).length = i + 1 := by rw [List.length_append, tops_len, l0]; rfl
  have z0 := hp z (List.mem_of_getElem? hz)
  have y0 := hp y (List.mem_of_getElem? hy)
  obtain ⟨D, hD⟩ : ∃ D : Int, D = max (y - z) (0 - (y - z)) := ⟨_, rfl⟩
  have hD2 : -D = min (y - z) (0 - (y - z)) := by omega
  have first : DD D (nx (ends cs (hs.take i)) z) (nx (ends cs (hs.take i)) y) ∧ DD D (nx (ends cs (hs.take i)) y) (nx (ends cs (hs.take i)) z) ∧ DD D (nx (nx (ends cs (hs.take i)) z) y) (nx (nx (ends cs (hs.take i)) y) z) ∧ DD D (nx (nx (ends cs (hs.take i)) y) z) (nx (nx (ends cs (hs.take i)) z) y) := by
    rcases Int.le_total z y with h | h
    · obtain ⟨x1, x2⟩ := exc_DD h z0 hS
      exact ⟨(nx_hi h hS).weak (by omega), (nx_lo h hS).weak (by omega), x1.weak (by omega), x2.weak (by omega)⟩
    · obtain ⟨x1, x2⟩ := exc_DD h y0 hS
      exact ⟨(nx_lo h hS).weak (by omega), (nx_hi h hS).weak (by omega), x2.weak (by omega), x1.weak (by omega)⟩
  obtain ⟨f1, f2, f3, f4⟩ := first
  have b := tops_bn (hs.drop (i + 1 + 1)) _ _ f3 f4 (nx_ne (nx_ne hS)) (fun h hh => hp h (List.mem_of_mem_drop hh))
  have m1 := (f1.mn (nx_ne hS)).2
  have m2 := (f2.mn (nx_ne hS)).2
  have b2 : Bn 0 (-D) D (tops (nx (ends cs (hs.take i)) z) (y :: hs.drop (i + 1 + 1))) (tops (nx (ends cs (hs.take i)) y) (z :: hs.drop (i + 1 + 1))) := by
    rw [tops_cons, tops_cons]
    refine ⟨by rw [List.length_cons, List.length_cons, b.len], fun k u v g1 g2 => ?_⟩
    cases k with
    | zero =>
      cases g1; cases g2
      exact ⟨by omega, by omega, fun q => absurd q (Nat.not_lt_zero _)⟩
    | succ k =>
      have := b.el k u v (by simpa using g1) (by simpa using g2)
      exact ⟨this.1, this.2.1, fun q => absurd q (Nat.not_lt_zero _)⟩
  have q := b2.pre (tops cs (hs.take i) ++ [mn (ends cs (hs.take i))]) (by omega) (by omega)
  rw [l1, hD2] at q
  rw [e1, e2, ← hD]
  exact q
end
/-! ### growths within bounds -/
structure Gb (n : Nat) (lo hi : Int) (g : List Int) : Prop where
  al : ∀ x ∈ g, lo ≤ x ∧ x ≤ hi
  ze : ∀ x ∈ g.take n, x = 0
theorem grow_ix {A B : List Int} {k : Nat} {g : Int} (h : (grow A B)[k]? = some g) : ∃ u v, A[k]? = some u ∧ B[k]? = some v ∧ g = v - u := by
  unfold grow at h
  rw [List.getElem?_map] at h
  cases e : (A.zip B)[k]? with
  | none => rw [e] at h; cases h
  | some p =>
    rw [e] at h
    cases h
    obtain ⟨e1, e2⟩ := List.getElem?_zip_eq_some.mp e
    exact ⟨p.1, p.2, e1, e2, rfl⟩
theorem gb_of {n : Nat} {lo hi : Int} {A B : List Int} (h : ∀ (k : Nat) (u v : Int), A[k]? = some u → B[k]? = some v → lo ≤ v - u ∧ v - u ≤ hi ∧ (k < n → v = u)) : Gb n lo hi (grow A B) := by
  refine ⟨fun x hx => ?_, fun x hx => ?_⟩
  · obtain ⟨k, hk, e⟩ := List.getElem_of_mem hx
    obtain ⟨u, v, e1, e2, rfl⟩ := grow_ix (A := A) (B := B) (k := k) (g := x) (by rw [List.getElem?_eq_getElem hk, e])
    have := h k u v e1 e2
    exact ⟨this.1, this.2.1⟩
  · obtain ⟨k, hk, e⟩ := List.getElem_of_mem hx
    rw [List.length_take] at hk
    obtain ⟨u, v, e1, e2, rfl⟩ := grow_ix (A := A) (B := B) (k := k) (g := x) (by rw [← e, List.getElem_take, List.getElem?_eq_getElem (by omega)])
    have := (h k u v e1 e2).2.2 (by omega)
    omega
end Lc

set_option maxHeartbeats 2000000
namespace Lc
open PySem PySem.Spec PyProof.Rows L2
/-! ### list(zip(xs, ys)) of two lists of one length -/
theorem zip_nolen : typeLookup (.type "zip") "__len__" = pure none := by rw [typeLookup_type, builtinLookup_eq_fast]; kernel_rfl
theorem zip_nohint : typeLookup (.type "zip") "__length_hint__" = pure none := by rw [typeLookup_type, builtinLookup_eq_fast]; kernel_rfl
/-- the state of the draining: k pairs stand in S -/
structure ZD (h0 h : Heap) (z TI TO i1 i2 l1 l2 S t0 : Addr) (xs ys : Array Value) (k : Nat) (ts : List Addr) : Prop where
  zip : (IsZip h z TI TO .none ∧ ∃ x y, IsPair h TO x y) ∨ ∃ T f oT, IsZipHeld h z TI TO T f ∧ h.get? T = some oT ∧ T ≠ S ∧ T ≠ z ∧ T ≠ i1 ∧ T ≠ i2
  ti : IsPair h TI (.ref i1) (.ref i2)
  t1 : h.IsListIter i1 l1 k
  t2 : h.IsListIter i2 l2 k
  e1 : h.IsList l1 xs
  e2 : h.IsList l2 ys
  st : ∃ acc c, h.get? S = some (lstObj acc c) ∧ acc.toList = ts.map Value.ref
  ln : ts.length = k
  pr : ∀ (j : Nat) (t : Addr), ts[j]? = some t → ∃ x y, xs[j]? = some x ∧ ys[j]? = some y ∧ IsPair h t x y
  up : ts.Pairwise (· < ·)
  lo : ∀ t ∈ ts, t0 ≤ t ∧ t < h.objs.size
  kp : ∀ b o, h0.get? b = some o → h.get? b = some o
  sz : t0 ≤ h.objs.size
theorem zip_drain {P : Program} {w : World} {A : Around} {s0 : Shared} {h0 : Heap} {z TI TO i1 i2 l1 l2 S t0 : Addr} {xs ys : Array Value} {res : Value} {R : Result → Shared → Prop} (hh : A.handled = none) (D : ZipApart z TI TO i1 i2 l1 l2)
    (HS : S ≠ z ∧ S ≠ TI ∧ S ≠ TO ∧ S ≠ i1 ∧ S ≠ i2 ∧ S ≠ l1 ∧ S ≠ l2) (HT : S < t0 ∧ z < t0 ∧ TI < t0 ∧ TO < t0 ∧ i1 < t0 ∧ i2 < t0) (h0s : ∀ b o, h0.get? b = some o → b ≠ z ∧ b ≠ TO ∧ b ≠ i1 ∧ b ≠ i2 ∧ b ≠ S)
    (hl : xs.size = ys.size) (hz : xs.size ≤ sizeLine)
    (hend : ∀ (h h' : Heap) (ts : List Addr), ZD h0 h z TI TO i1 i2 l1 l2 S t0 xs ys xs.size ts → (∀ b o, b ≠ z → b ≠ TO → b ≠ i1 → b ≠ i2 → h.get? b = some o → h'.get? b = some o) → R (.ok (.ret res)) { s0 with heap := h' }) :
    ∀ (m k : Nat) (h : Heap) (ts : List Addr), k + m = xs.size → ZD h0 h z TI TO i1 i2 l1 l2 S t0 xs ys k ts →
      codeAny (model P w) A (.builtin "list.extend.loop" ⟨[.ref S, .ref z, res], []⟩) R { s0 with heap := h } := by
  intro m
  induction m with
  | zero =>
    intro k h ts hk Z
    obtain rfl : k = xs.size := by omega
    refine codeAny_builtin F.entry_extend_loop ?_
    rw [Around.under_plainId F.plain_extend_loop _]
    have no : xs[xs.size]? = none := by simp
    rcases Z.zip with ⟨zz, x, y, hTO⟩ | ⟨T, f, oT, zz, hT, u1, u2, u3, u4⟩
    · exact wpAny_bind (wpAny_pyNext_zip_end (s := { s0 with heap := h }) hh D zz Z.ti hTO Z.t1 Z.t2 Z.e1 Z.e2 (.inl no) fun h' q => wpAny_pure (hend h h' ts Z q))
    · exact wpAny_bind (wpAny_pyNext_zip_end_held (s := { s0 with heap := h }) hh D zz hT Z.ti Z.t1 Z.t2 Z.e1 Z.e2 (.inl no) fun h' q => wpAny_pure (hend h h' ts Z fun b o b1 _ b3 b4 e => q b o b1 b3 b4 e))
  | succ m ih =>
    intro k h ts hk Z
    have kx : k < xs.size := by omega
    have ky : k < ys.size := by omega
    have hx : xs[k]? = some xs[k] := by simp [kx]
    have hy : ys[k]? = some ys[k] := by simp [ky]
    have go : ∀ h', (∃ T f oT, IsZipHeld h' z TI TO T f ∧ h'.get? T = some oT ∧ T ≠ S ∧ T ≠ z ∧ T ≠ i1 ∧ T ≠ i2) → h'.IsListIter i1 l1 (k + 1) → h'.IsListIter i2 l2 (k + 1) → IsPair h' h.objs.size xs[k] ys[k] → h'.objs.size = h.objs.size + 1 →
        (∀ b o, b ≠ z → b ≠ TO → b ≠ i1 → b ≠ i2 → h.get? b = some o → h'.get? b = some o) →
        wpAny (model P w) A.in1 (updateSeq S (·.push (.ref h.objs.size)) >>= fun _ => again (.builtin "list.extend.loop" ⟨[.ref S, .ref z, res], []⟩))
          (fun fin s' => match fin with
            | .done f => R (.ok f) s'
            | .again c' => c'.quiet = true ∧ codeAny (model P w) A c' R s') (fun e s' => R (.error e) s') { s0 with heap := h' } := by
      intro h' hT g1 g2 gp gz gk
      obtain ⟨acc, c, hS, hacc⟩ := Z.st
      have hS' := gk S _ HS.1 HS.2.2.1 HS.2.2.2.1 HS.2.2.2.2.1 hS
      have asz : acc.size = k := by
        have q := congrArg List.length hacc
        rw [List.length_map, Z.ln] at q
        rw [← q]; simp
      refine wpAny_bind ?_
      refine wpAny_updateSeq hS' rfl (wpAny_pure ⟨plainId_quiet F.plain_extend_loop _, ?_⟩) (by show acc.size ≤ sizeLine; omega) (by show (acc.push _).size ≤ sizeLine + 1; rw [Array.size_push]; omega)
      have keep3 : ∀ b o, b ≠ S → h'.get? b = some o → (h'.update S (Obj.mapSeq (·.push (.ref h.objs.size)))).get? b = some o := fun b o hbS e => (Heap.get?_update_other _ _ (Ne.symm hbS)).trans e
      have kall : ∀ b o, b ≠ S → b ≠ z → b ≠ TO → b ≠ i1 → b ≠ i2 → h.get? b = some o → (h'.update S (Obj.mapSeq (·.push (.ref h.objs.size)))).get? b = some o := fun b o a0 a1 a2 a3 a4 e => keep3 b o a0 (gk b o a1 a2 a3 a4 e)
      have sz3 : (h'.update S (Obj.mapSeq (·.push (.ref h.objs.size)))).objs.size = h.objs.size + 1 := by rw [← gz]; exact Heap.size_update ..
      refine ih (k + 1) _ (ts ++ [h.objs.size]) (by omega) ⟨.inr ?_, kall TI _ HS.2.1.symm D.TIz D.TITO D.TIi1 D.TIi2 Z.ti, ?_, ?_, ?_, ?_, ?_, ?_, fun j t hj => ?_, ?_, fun t ht => ?_, fun b o e => ?_, ?_⟩
      · obtain ⟨T, f, oT, z1, z2, z3, z4⟩ := hT
        exact ⟨T, f, oT, keep3 z _ HS.1.symm z1, keep3 T _ z3 z2, z3, z4⟩
      · exact g1.at fun o e => keep3 i1 o HS.2.2.2.1.symm e
      · exact g2.at fun o e => keep3 i2 o HS.2.2.2.2.1.symm e
      · obtain ⟨o, e, r⟩ := Z.e1
        exact ⟨o, kall l1 _ HS.2.2.2.2.2.1.symm D.l1z D.l1TO D.l1i1 D.l1i2 e, r⟩
      · obtain ⟨o, e, r⟩ := Z.e2
        exact ⟨o, kall l2 _ HS.2.2.2.2.2.2.symm D.l2z D.l2TO D.l2i1 D.l2i2 e, r⟩
      · exact ⟨acc.push (.ref h.objs.size), _, (Heap.get?_update_self (Obj.mapSeq (·.push (.ref h.objs.size))) hS' rfl), by rw [Array.toList_push, hacc, List.map_append]; rfl⟩
      · rw [List.length_append, Z.ln]; rfl
      · by_cases q : j < ts.length
        · rw [List.getElem?_append_left q] at hj
          obtain ⟨x, y, a1, a2, a3⟩ := Z.pr j t hj
          have tl := Z.lo t (List.mem_of_getElem? hj)
          exact ⟨x, y, a1, a2, kall t _ (Nat.ne_of_gt (Nat.lt_of_lt_of_le HT.1 tl.1)) (Nat.ne_of_gt (Nat.lt_of_lt_of_le HT.2.1 tl.1)) (Nat.ne_of_gt (Nat.lt_of_lt_of_le HT.2.2.2.1 tl.1)) (Nat.ne_of_gt (Nat.lt_of_lt_of_le HT.2.2.2.2.1 tl.1)) (Nat.ne_of_gt (Nat.lt_of_lt_of_le HT.2.2.2.2.2 tl.1)) a3⟩
        · rw [List.getElem?_append_right (by omega)] at hj
          by_cases q2 : j = ts.length
          · subst q2
            rw [Nat.sub_self] at hj
            cases hj
            rw [Z.ln]
            exact ⟨_, _, hx, hy, keep3 _ _ (Nat.ne_of_gt (Nat.lt_of_lt_of_le HT.1 Z.sz)) gp⟩
          · rw [show j - ts.length = (j - ts.length - 1) + 1 by omega] at hj
            cases hj
      · rw [List.pairwise_append]
        refine ⟨Z.up, List.pairwise_singleton _ _, fun t ht u hu => ?_⟩
        rw [List.mem_singleton] at hu
        subst hu
        exact (Z.lo t ht).2
      · rw [sz3]
        rcases List.mem_append.mp ht with q | q
        · exact ⟨(Z.lo t q).1, Nat.lt_succ_of_lt (Z.lo t q).2⟩
        · rw [List.mem_singleton] at q
          subst q
          exact ⟨Z.sz, Nat.lt_succ_self _⟩
      · obtain ⟨a1, a2, a3, a4, a5⟩ := h0s b o e
        exact kall b o a5 a1 a2 a3 a4 (Z.kp b o e)
      · rw [sz3]; exact Nat.le_succ_of_le Z.sz
    refine codeAny_builtin F.entry_extend_loop ?_
    rw [Around.under_plainId F.plain_extend_loop _]
    have SnT : S ≠ h.objs.size := Nat.ne_of_lt (Nat.lt_of_lt_of_le HT.1 Z.sz)
    rcases Z.zip with ⟨zz, x, y, hTO⟩ | ⟨T, f, oT, zz, hT, u1, u2, u3, u4⟩
    · exact wpAny_bind (wpAny_pyNext_zip_item (s := { s0 with heap := h }) D zz Z.ti hTO Z.t1 Z.t2 Z.e1 Z.e2 hx hy fun h' a1 a2 a3 a4 a5 a6 a7 => go h' ⟨_, _, _, a1, a5, SnT.symm, Nat.ne_of_gt (Nat.lt_of_lt_of_le HT.2.1 Z.sz), Nat.ne_of_gt (Nat.lt_of_lt_of_le HT.2.2.2.2.1 Z.sz), Nat.ne_of_gt (Nat.lt_of_lt_of_le HT.2.2.2.2.2 Z.sz)⟩ a3 a4 a5 a6 a7)
    · refine wpAny_bind (wpAny_pyNext_zip_item_held (s := { s0 with heap := h }) D zz hT Z.ti Z.t1 Z.t2 Z.e1 Z.e2 hx hy fun h' a1 a3 a4 a5 a6 a7 => ?_)
      refine go h' ⟨T, true, oT, a1, a7 T _ u2 u3 u4 hT, u1, u2, u3, u4⟩ a3 a4 a5 a6 fun b o b1 b2 b3 b4 e => a7 b o b1 b3 b4 e
/-- list(z) of a zip object that has not begun -/
theorem call_list_zip {P : Program} {w : World} {A : Around} {s : Shared} {h0 : Heap} {z TI TO i1 i2 l1 l2 : Addr} {xs ys : Array Value} {x0 y0 : Value} {Q' : Value → Shared → Prop} {E : Value → Shared → Prop} (hh : A.handled = none) (D : ZipApart z TI TO i1 i2 l1 l2)
    (hz : IsZip s.heap z TI TO .none) (hTI : IsPair s.heap TI (.ref i1) (.ref i2)) (hTO : IsPair s.heap TO x0 y0) (h1 : s.heap.IsListIter i1 l1 0) (h2 : s.heap.IsListIter i2 l2 0) (e1 : s.heap.IsList l1 xs) (e2 : s.heap.IsList l2 ys)
    (k0 : ∀ b o, h0.get? b = some o → s.heap.get? b = some o) (h0s : ∀ b o, h0.get? b = some o → b ≠ z ∧ b ≠ TO ∧ b ≠ i1 ∧ b ≠ i2) (hl : xs.size = ys.size) (hsz : xs.size ≤ sizeLine)
    (hQ : ∀ (h' : Heap) (acc : Array Value) (c : Nat) (ts : List Addr), h'.get? s.heap.objs.size = some (lstObj acc c) → acc.toList = ts.map Value.ref → ts.length = xs.size → (∀ (j : Nat) (t : Addr), ts[j]? = some t → ∃ x y, xs[j]? = some x ∧ ys[j]? = some y ∧ IsPair h' t x y) →
      ts.Pairwise (· < ·) → (∀ t ∈ ts, s.heap.objs.size + 1 ≤ t) → (∀ b o, h0.get? b = some o → h'.get? b = some o) → Q' (.ref s.heap.objs.size) { s with heap := h' }) :
    wpAny (model P w) A (call (.type "list") [.ref z]) Q' E s := by
  have zl : z < s.heap.objs.size := Heap.lt_size hz
  have TIl : TI < s.heap.objs.size := Heap.lt_size hTI
  have TOl : TO < s.heap.objs.size := Heap.lt_size hTO
  have i1l : i1 < s.heap.objs.size := by obtain ⟨_, e, _⟩ := h1; exact Heap.lt_size e
  have i2l : i2 < s.heap.objs.size := by obtain ⟨_, e, _⟩ := h2; exact Heap.lt_size e
  have l1l : l1 < s.heap.objs.size := by obtain ⟨_, e, _⟩ := e1; exact Heap.lt_size e
  have l2l : l2 < s.heap.objs.size := by obtain ⟨_, e, _⟩ := e2; exact Heap.lt_size e
  refine callType_codes (Q₁ := fun obj s₁ => obj = .ref s.heap.objs.size ∧ s₁ = { s with heap := s.heap.push { cls := .type "list", data := .seq #[] } }) F.called_list (F.typeCall_list_1 _) F.entry_list_init
    (code_list_new _ ⟨rfl, rfl⟩) fun obj s₁ h₁ => ?_
  obtain ⟨rfl, rfl⟩ := h₁
  have hS : (s.heap.push { cls := .type "list", data := .seq #[] }).get? s.heap.objs.size = some { cls := .type "list", data := .seq #[] } := Heap.get?_push_size _ rfl
  refine ⟨⟨_, hS, rfl⟩, F.args_list_init_2 _ _, ?_⟩
  show wpAny _ A.in1.in1 (do let old ← Builtin.List.listItems (.ref s.heap.objs.size); Builtin.List.listUpdate (.ref s.heap.objs.size) (fun _ => #[]); letGo old.toList.reverse; Builtin.List.listExtendWith (.ref s.heap.objs.size) (.ref z) .none) _ _ _
  refine wpAny_bind ?_
  unfold Builtin.List.listItems
  refine wpAny_bind (wpAny_seqItems hS rfl (wpAny_pure ?_))
  show wpAny _ A.in1.in1 (updateSeq s.heap.objs.size (fun _ => #[]) >>= fun _ => letGo (#[] : Array Value).toList.reverse >>= fun _ => Builtin.List.listExtendWith (.ref s.heap.objs.size) (.ref z) .none) _ _ _
  refine wpAny_bind (wpAny_updateSeq hS rfl ?_)
  have hS2 := Heap.get?_update_self (Obj.mapSeq (fun _ => (#[] : Array Value))) hS rfl
  refine wpAny_bind (wpAny_letGo ?_)
  unfold Builtin.List.listExtendWith
  have up : ∀ (h : Heap) (f : Obj → Obj), (∀ b o, s.heap.get? b = some o → h.get? b = some o) → ∀ b o, s.heap.get? b = some o → (h.update s.heap.objs.size f).get? b = some o := fun h f q b o e =>
    (Heap.get?_update_other _ _ (Ne.symm (Nat.ne_of_lt (Heap.lt_size e)))).trans (q b o e)
  have k1 : ∀ b o, s.heap.get? b = some o → (s.heap.push { cls := .type "list", data := .seq #[] }).get? b = some o := fun b o e => Heap.get?_push_of_some _ e
  have k2 := up _ (Obj.mapSeq (fun _ => (#[] : Array Value))) k1
  have ty : ∀ {h : Heap}, (∀ b o, s.heap.get? b = some o → h.get? b = some o) → Shared.TypeIs { s with heap := h } (.ref z) "zip" := fun {h} q => ⟨_, q _ _ hz, rfl⟩
  refine wpAny_bind (wpAny_typeOf (ty k2) ?_)
  have g1 : Builtin.List.listSameRef (.ref s.heap.objs.size) (.ref z) = false := by simp [Builtin.List.listSameRef]; exact Nat.ne_of_gt zl
  have g2 : (Value.type "zip" == Value.type "list") = false := by decide
  have g3 : (Value.type "zip" == Value.type "tuple") = false := by decide
  simp only [g1, g2, g3, Bool.or_false, Bool.false_eq_true, if_false]
  refine wpAny_bind (wpAny_pyIter_zip (s := { s with heap := _ }) (k2 _ _ hz) ?_)
  refine wpAny_bind (wpAny_holding ?_)
  unfold Builtin.List.listLengthHint
  refine wpAny_bind (wpAny_specialOf (ty k2) zip_nolen ?_)
  show wpAny _ A.in1.in1 (specialOf (Value.ref z) (Str.ofString "__length_hint__") >>= _) _ _ _
  refine wpAny_bind (wpAny_specialOf (ty k2) zip_nohint ?_)
  refine wpAny_pure ?_
  show wpAny _ A.in1.in1 (rule "list.extend.makes-room" >>= fun _ => Builtin.List.listTouch (.ref s.heap.objs.size) >>= fun _ =>
    again (.builtin "list.extend.loop" ⟨[.ref s.heap.objs.size, .ref z, .none], []⟩)) _ _ _
  refine wpAny_bind (wpAny_rule ?_)
  refine wpAny_bind ?_
  show wpAny _ A.in1.in1 (updateSeq s.heap.objs.size (·.push .none) >>= fun _ => updateSeq s.heap.objs.size (·.pop)) _ _ _
  refine wpAny_bind (wpAny_updateSeq hS2 rfl ?_)
  have hS3 := Heap.get?_update_self (Obj.mapSeq (·.push Value.none)) hS2 rfl
  refine wpAny_updateSeq (hz := by seq_fits) hS3 rfl ?_
  have hS4 := Heap.get?_update_self (Obj.mapSeq (·.pop)) hS3 rfl
  have k4 := up _ (Obj.mapSeq (·.pop)) (up _ (Obj.mapSeq (·.push Value.none)) k2)
  refine wpAny_pure ⟨plainId_quiet F.plain_extend_loop _, ?_⟩
  refine zip_drain (P := P) (w := w) (s0 := s) (h0 := h0) (A := A.in1) (t0 := s.heap.objs.size + 1) (xs := xs) (ys := ys) hh D
    ⟨Nat.ne_of_gt zl, Nat.ne_of_gt TIl, Nat.ne_of_gt TOl, Nat.ne_of_gt i1l, Nat.ne_of_gt i2l, Nat.ne_of_gt l1l, Nat.ne_of_gt l2l⟩
    ⟨Nat.lt_succ_self _, Nat.lt_succ_of_lt zl, Nat.lt_succ_of_lt TIl, Nat.lt_succ_of_lt TOl, Nat.lt_succ_of_lt i1l, Nat.lt_succ_of_lt i2l⟩
    (fun b o e => ⟨(h0s b o e).1, (h0s b o e).2.1, (h0s b o e).2.2.1, (h0s b o e).2.2.2, Nat.ne_of_lt (Heap.lt_size (k0 b o e))⟩) hl hsz ?_ xs.size 0 _ [] (Nat.zero_add _)
    ⟨.inl ⟨k4 _ _ hz, x0, y0, k4 _ _ hTO⟩, k4 _ _ hTI, h1.at fun o e => k4 _ o e, h2.at fun o e => k4 _ o e, e1.at fun o e => k4 _ o e, e2.at fun o e => k4 _ o e, ⟨_, _, hS4, rfl⟩, rfl, fun j t q => (by cases q), .nil, fun t q => (by cases q), fun b o e => k4 b o (k0 b o e), ?_⟩
  · intro h h' ts Z kp
    obtain ⟨acc, c, a1, a2⟩ := Z.st
    refine ⟨rfl, hQ h' acc c ts (kp _ _ (Nat.ne_of_gt zl) (Nat.ne_of_gt TOl) (Nat.ne_of_gt i1l) (Nat.ne_of_gt i2l) a1) a2 Z.ln (fun j t q => ?_) Z.up (fun t q => (Z.lo t q).1) fun b o e => ?_⟩
    · obtain ⟨x, y, b1, b2, b3⟩ := Z.pr j t q
      have tl := (Z.lo t (List.mem_of_getElem? q)).1
      exact ⟨x, y, b1, b2, kp _ _ (Nat.ne_of_gt (Nat.lt_of_lt_of_le (Nat.lt_succ_of_lt zl) tl)) (Nat.ne_of_gt (Nat.lt_of_lt_of_le (Nat.lt_succ_of_lt TOl) tl)) (Nat.ne_of_gt (Nat.lt_of_lt_of_le (Nat.lt_succ_of_lt i1l) tl)) (Nat.ne_of_gt (Nat.lt_of_lt_of_le (Nat.lt_succ_of_lt i2l) tl)) b3⟩
    · obtain ⟨q1, q2, q3, q4⟩ := h0s b o e
      exact kp b o q1 q2 q3 q4 (Z.kp b o e)
  · rw [Heap.size_update, Heap.size_update, Heap.size_update, Heap.size_push]
    exact Nat.le_refl _
/-! ### the new list and its tuples, tracked -/
theorem lk_none {α : Type} {b : Addr} : ∀ (ts : List Addr) (qs : List α), b ∉ ts → (ts.zip qs).lookup b = none
  | [], _, _ => by simp
  | _ :: _, [], _ => by simp
  | t :: ts, q :: qs, h => by
    have h1 : (b == t) = false := by simpa using fun z => h (by rw [z]; exact List.mem_cons_self)
    rw [List.zip_cons_cons, List.lookup_cons, h1]
    exact lk_none ts qs fun z => h (List.mem_cons_of_mem _ z)
theorem lk_at {α : Type} : ∀ (ts : List Addr) (qs : List α), ts.Nodup → ∀ (j : Nat) (t : Addr) (q : α), ts[j]? = some t → qs[j]? = some q → (ts.zip qs).lookup t = some q
  | [], _, _, _, _, _, h, _ => by simp at h
  | _ :: _, [], _, _, _, _, _, h => by simp at h
  | u :: ts, p :: qs, nd, 0, t, q, h1, h2 => by
    simp only [List.getElem?_cons_zero, Option.some.injEq] at h1 h2
    subst h1; subst h2
    rw [List.zip_cons_cons, List.lookup_cons, beq_self_eq_true]
  | u :: ts, p :: qs, nd, j + 1, t, q, h1, h2 => by
    simp only [List.getElem?_cons_succ] at h1 h2
    have nd' := List.nodup_cons.mp nd
    have h3 : (t == u) = false := by simpa using fun z => nd'.1 (by rw [← z]; exact List.mem_of_getElem? h1)
    rw [List.zip_cons_cons, List.lookup_cons, h3]
    exact lk_at ts qs nd'.2 j t q h1 h2
/-- behind list(zip(..)) -/
def zLay (H : Hp) (S : Addr) (ts : List Addr) (qs : List (V × V)) : Hp := fun b => if b = S then some (.lst (ts.map V.ref)) else match (ts.zip qs).lookup b with
  | some q => some (.tup [q.1, q.2])
  | none => H b
theorem zLay_off {H : Hp} {S b : Addr} {ts : List Addr} {qs : List (V × V)} (h1 : b ≠ S) (h2 : b ∉ ts) : zLay H S ts qs b = H b := by
  unfold zLay
  rw [if_neg h1, lk_none ts qs h2]
theorem zLay_at {H : Hp} {S t : Addr} {ts : List Addr} {qs : List (V × V)} {j : Nat} {q : V × V} (nd : ts.Nodup) (h1 : t ≠ S) (h2 : ts[j]? = some t) (h3 : qs[j]? = some q) : zLay H S ts qs t = some (.tup [q.1, q.2]) := by
  unfold zLay
  rw [if_neg h1, lk_at ts qs nd j t q h2 h3]
theorem vrefs : ∀ ts : List Addr, Vals (ts.map V.ref) (ts.map Value.ref)
  | [] => .nil
  | _ :: ts => .cons rfl (vrefs ts)
def rListZip (K : PySem.W.Frag) : List V → Hp → VK → Prop := fun vs H Q => ∃ (a b : Addr) (xs ys : List V), vs = [.ref a, .ref b] ∧ SqL K H a xs ∧ SqL K H b ys ∧ xs.length = ys.length ∧
  ∀ (H' : Hp) (p : Addr) (ts : List Addr), (∀ b o, H b = some o → H' b = some o) → H p = none → (∀ t ∈ ts, H t = none) → H' p = some (.lst (ts.map V.ref)) → ts.length = xs.length →
    (∀ (j : Nat) (t : Addr), ts[j]? = some t → ∃ x y, xs[j]? = some x ∧ ys[j]? = some y ∧ H' t = some (.tup [x, y])) → Q (.ref p) H'
def tListZip (K : PySem.W.Frag) (ta : TA) : TE := fun σ H Q => ta σ H fun vs H1 => rListZip K vs H1 Q
theorem pe_listZip {X : Cx} {e e2 : Expr} {ta : TA} {p p2 pos pos2 : Pos} (hc : X.calm = true) (hg : Gl X "list") (hm : X.mg "list" = none) (hv : bootBuiltins "list" = some (.type "list")) (hg2 : Gl X "zip") (hm2 : X.mg "zip" = none) (ha : PA X [e, e2] ta)
    (hs0 : starEach [.Call (.Name "zip" p2) [e, e2] [] pos2] X.env = (false, eval (.Call (.Name "zip" p2) [e, e2] [] pos2) X.env) :: starEach [] X.env := by rfl)
    (hs : starEach [e, e2] X.env = (false, eval e X.env) :: starEach [e2] X.env := by rfl) (hpl : (backTo pos2 (starEach [e2] X.env)).any (·.1) = false := by rfl) :
    PE X (.Call (.Name "list" p) [.Call (.Name "zip" p2) [e, e2] [] pos2] [] pos) (tListZip X.K ta) := by
  refine ⟨fun pins s σ H Q I hq => ?_⟩
  refine wpAny_Call_Name_kw (ld_blt I hg hm hv ?_)
  refine PyProof.Rows.callWith_type1 ?_ hs0 rfl
  rw [hs0]
  show wpAny _ _ (spliced ((false, eval (.Call (.Name "zip" p2) [e, e2] [] pos2) X.env) :: backTo pos (starEach [] X.env))) _ _ s
  refine Calls.spliced_cons ?_
  refine Call_ (ld_blt I hg2 hm2 PyProof.Rows.boot_zip (PyProof.Rows.callWith_type1 (thn (ha.run pos2 pins s σ H _ I hq) fun us s1 ⟨vs, H1, I1, r1, q1⟩ => ?_) hs hpl))
  obtain ⟨a, b, xs, ys, ex, hqx, hqy, hl, q⟩ := q1
  subst ex
  cases r1 with
  | cons r rr =>
    cases rr with
    | cons r' rr =>
      cases rr
      cases r
      cases r'
      obtain ⟨its, rv, pl1, sz1⟩ := I1.list hqx
      obtain ⟨its2, rv2, pl2, _⟩ := I1.list hqy
      have l1 := rv.length
      have l2 := rv2.length
      refine call_zip_2 pl1.isList pl2.isList fun h1 hz hTI hTO t1 t2 hsz hk => ?_
      refine Calls.spliced_nil ?_
      have D := PySem.W.ktu_apart s1.heap.objs.size a b pl1.lt pl2.lt
      refine call_list_zip (s := { s1 with heap := h1 }) (h0 := s1.heap) (xs := its.toArray) (ys := its2.toArray) (I1.ok.hd hc) D hz hTI hTO t1 t2 (pl1.isList.at fun o e => hk _ o e) (pl2.isList.at fun o e => hk _ o e) hk (fun c o e => ?_) (by simp only [List.size_toArray]; omega) (by simp only [List.size_toArray]; omega) ?_
      · have := Heap.lt_size e
        exact ⟨Nat.ne_of_lt (Nat.lt_add_right 4 this), Nat.ne_of_lt (Nat.lt_add_right 3 this), Nat.ne_of_lt this, Nat.ne_of_lt (Nat.lt_add_right 1 this)⟩
      · intro h' acc c ts e1 e2 e3 e4 e5 e6 e7
        have nd : ts.Nodup := e5.imp fun h => Nat.ne_of_lt h
        have hS : s1.heap.objs.size ≤ h1.objs.size := by rw [hsz]; exact Nat.le_add_right _ _
        have tS : ∀ t ∈ ts, t ≠ h1.objs.size := fun t ht => Nat.ne_of_gt (e6 t ht)
        have new : ∀ t ∈ ts, H1 t = none := fun t ht => I1.hok.fresh (Nat.le_trans hS (Nat.le_of_lt (e6 t ht)))
        have newS : H1 h1.objs.size = none := I1.hok.fresh hS
        have lz : (xs.zip ys).length = ts.length := by
          rw [List.length_zip, e3, List.size_toArray]; omega
        have kp : ∀ c u, H1 c = some u → zLay H1 h1.objs.size ts (xs.zip ys) c = some u := fun c u e => by
          rw [zLay_off (fun z => by rw [z, newS] at e; cases e) fun z => by rw [new c z] at e; cases e]
          exact e
        have old : ∀ c o, s1.heap.get? c = some o → c ≠ h1.objs.size ∧ c ∉ ts := fun c o e => by
          have lt := Heap.lt_size e
          exact ⟨Nat.ne_of_lt (Nat.lt_of_lt_of_le lt hS), fun z => absurd (e6 c z) (Nat.not_le.mpr (Nat.lt_succ_of_lt (Nat.lt_of_lt_of_le lt hS)))⟩
        have row : ∀ (j : Nat) (t : Addr), ts[j]? = some t → ∃ x y u v, xs[j]? = some x ∧ ys[j]? = some y ∧ RelV x u ∧ RelV y v ∧ IsPair h' t u v ∧ zLay H1 h1.objs.size ts (xs.zip ys) t = some (.tup [x, y]) := fun j t ht => by
          have jt : j < ts.length := (List.getElem?_eq_some_iff.mp ht).1
          have jx : j < xs.length := by rw [e3, List.size_toArray] at jt; omega
          have jy : j < ys.length := by omega
          obtain ⟨u, v, g1, g2, g3⟩ := e4 j t ht
          obtain ⟨u', f1, f2⟩ := rv.get (List.getElem?_eq_getElem jx)
          obtain ⟨v', f3, f4⟩ := rv2.get (List.getElem?_eq_getElem jy)
          rw [List.getElem?_toArray] at g1 g2
          rw [f1] at g1
          rw [f3] at g2
          cases g1
          cases g2
          exact ⟨xs[j], ys[j], u, v, List.getElem?_eq_getElem jx, List.getElem?_eq_getElem jy, f2, f4, g3, zLay_at nd (tS t (List.mem_of_getElem? ht)) ht (q := (xs[j], ys[j])) (by rw [List.getElem?_zip_eq_some]; exact ⟨List.getElem?_eq_getElem jx, List.getElem?_eq_getElem jy⟩)⟩
        have at0 : zLay H1 h1.objs.size ts (xs.zip ys) h1.objs.size = some (.lst (ts.map V.ref)) := by
          unfold zLay
          rw [if_pos rfl]
        have J : Inv X pins σ (zLay H1 h1.objs.size ts (xs.zip ys)) { s1 with heap := h' } := by
          refine I1.call' (ch := []) rfl { keep := fun c o e _ _ _ => e7 c o e, slot := fun c o e _ _ _ => ⟨o.slots, e7 c o e⟩, free := fun c o e n _ => ?_, there := fun c o e _ => ⟨o, e7 c o e⟩, tups := fun c us e => kp c _ e, frzs := fun c o u e => kp c _ e, tbls := fun c us e => ⟨#[], ?_⟩ } (fun c u e => ?_) I1.bare fun c z => ?_
          · rw [zLay_off (old c o e).1 (old c o e).2]
            exact n
          · rw [kp c _ e]; simp
          · by_cases cS : c = h1.objs.size
            · subst cS
              rw [at0] at e
              cases e
              refine ⟨?_, acc.toList, c, ?_, ?_⟩
              · rw [List.length_map, e3, List.size_toArray]; omega
              · rw [e2]; exact vrefs ts
              · rw [Array.toArray_toList]; exact e1
            · by_cases ct : c ∈ ts
              · obtain ⟨j, hj⟩ := List.getElem?_of_mem ct
                obtain ⟨x, y, u1, v1, _, _, f1, f2, f3, f4⟩ := row j c hj
                rw [f4] at e
                cases e
                exact ⟨(by show 2 ≤ sizeLine; decide), [u1, v1], Paired.cons f1 (Paired.cons f2 Paired.nil), ⟨_, f3, rfl, _, rfl⟩⟩
              · rw [zLay_off cS ct] at e
                exact (I1.hok c u e).stay (fun d o _ z => e7 d o z) (fun d z => kp d _ z) fun d us z => kp d _ z
          · cases z
        refine ⟨.ref h1.objs.size, _, J, rfl, q _ _ ts kp newS new at0 ?_ fun j t ht => ?_⟩
        · rw [e3, List.size_toArray]; omega
        · obtain ⟨x, y, _, _, f1, f2, _, _, _, f3⟩ := row j t ht
          exact ⟨x, y, f1, f2, f3⟩
end Lc

namespace K51
open PySem PySem.Spec PyProof.Rows L2 Lc
def topS (i : Nat) : Stmt := PySem.Challenge.pw_lowcolumns_k51_whole_effects_and_tops.main.body.getD i (.Pass ⟨0, 0, 0, 0⟩)
abbrev s_is_integer_within : Stmt := topS 10
abbrev nm_is_integer_within : List Str := ["value", "least", "greatest"]
theorem sc_is_integer_within : FnScope nm_is_integer_within ["value", "least", "greatest"] (defScope s_is_integer_within) :=
  ⟨rfl, rfl, rfl, by decide +kernel, rfl, by decide +kernel, by decide +kernel⟩
abbrev s_is_list_of_integers : Stmt := topS 11
abbrev nm_is_list_of_integers : List Str := ["value", "fewest", "most", "least", "greatest", "item"]
theorem sc_is_list_of_integers : FnScope nm_is_list_of_integers ["value", "fewest", "most", "least", "greatest"] (defScope s_is_list_of_integers) :=
  ⟨rfl, rfl, rfl, by decide +kernel, rfl, by decide +kernel, by decide +kernel⟩
abbrev s_is_one_height : Stmt := topS 12
abbrev nm_is_one_height : List Str := ["value"]
theorem sc_is_one_height : FnScope nm_is_one_height ["value"] (defScope s_is_one_height) :=
  ⟨rfl, rfl, rfl, by decide +kernel, rfl, by decide +kernel, by decide +kernel⟩
abbrev s_check_height : Stmt := topS 13
abbrev nm_check_height : List Str := ["height"]
theorem sc_check_height : FnScope nm_check_height ["height"] (defScope s_check_height) :=
  ⟨rfl, rfl, rfl, by decide +kernel, rfl, by decide +kernel, by decide +kernel⟩
abbrev s_check_index : Stmt := topS 14
abbrev nm_check_index : List Str := ["index", "many"]
theorem sc_check_index : FnScope nm_check_index ["index", "many"] (defScope s_check_index) :=
  ⟨rfl, rfl, rfl, by decide +kernel, rfl, by decide +kernel, by decide +kernel⟩
abbrev s_is_start : Stmt := topS 16
abbrev nm_is_start : List Str := ["value"]
theorem sc_is_start : FnScope nm_is_start ["value"] (defScope s_is_start) :=
  ⟨rfl, rfl, rfl, by decide +kernel, rfl, by decide +kernel, by decide +kernel⟩
abbrev s_is_cards : Stmt := topS 17
abbrev nm_is_cards : List Str := ["value"]
theorem sc_is_cards : FnScope nm_is_cards ["value"] (defScope s_is_cards) :=
  ⟨rfl, rfl, rfl, by decide +kernel, rfl, by decide +kernel, by decide +kernel⟩
abbrev s_check_start : Stmt := topS 18
abbrev nm_check_start : List Str := ["start"]
theorem sc_check_start : FnScope nm_check_start ["start"] (defScope s_check_start) :=
  ⟨rfl, rfl, rfl, by decide +kernel, rfl, by decide +kernel, by decide +kernel⟩
abbrev s_check_cards : Stmt := topS 19
abbrev nm_check_cards : List Str := ["heights"]
theorem sc_check_cards : FnScope nm_check_cards ["heights"] (defScope s_check_cards) :=
  ⟨rfl, rfl, rfl, by decide +kernel, rfl, by decide +kernel, by decide +kernel⟩
abbrev s_check_start_and_cards : Stmt := topS 20
abbrev nm_check_start_and_cards : List Str := ["start", "heights"]
theorem sc_check_start_and_cards : FnScope nm_check_start_and_cards ["start", "heights"] (defScope s_check_start_and_cards) :=
  ⟨rfl, rfl, rfl, by decide +kernel, rfl, by decide +kernel, by decide +kernel⟩
abbrev s_lowest_column : Stmt := topS 21
abbrev nm_lowest_column : List Str := ["columns", "right", "lowest"]
theorem sc_lowest_column : FnScope nm_lowest_column ["columns", "right"] (defScope s_lowest_column) :=
  ⟨rfl, rfl, rfl, by decide +kernel, rfl, by decide +kernel, by decide +kernel⟩
abbrev s_lay_cards : Stmt := topS 22
abbrev nm_lay_cards : List Str := ["start", "heights", "right", "columns", "places", "height", "column", "top"]
theorem sc_lay_cards : FnScope nm_lay_cards ["start", "heights", "right"] (defScope s_lay_cards) :=
  ⟨rfl, rfl, rfl, by decide +kernel, rfl, by decide +kernel, by decide +kernel⟩
abbrev s_tops_of : Stmt := topS 23
abbrev nm_tops_of : List Str := ["start", "heights", "places", "_", "column", "top"]
theorem sc_tops_of : FnScope nm_tops_of ["start", "heights"] (defScope s_tops_of) :=
  ⟨rfl, rfl, rfl, by decide +kernel, rfl, by decide +kernel, by decide +kernel⟩
abbrev s_end_of : Stmt := topS 24
abbrev nm_end_of : List Str := ["start", "heights", "_", "columns"]
theorem sc_end_of : FnScope nm_end_of ["start", "heights"] (defScope s_end_of) :=
  ⟨rfl, rfl, rfl, by decide +kernel, rfl, by decide +kernel, by decide +kernel⟩
abbrev s_with_item : Stmt := topS 26
abbrev nm_with_item : List Str := ["items", "index", "item"]
theorem sc_with_item : FnScope nm_with_item ["items", "index", "item"] (defScope s_with_item) :=
  ⟨rfl, rfl, rfl, by decide +kernel, rfl, by decide +kernel, by decide +kernel⟩
abbrev s_without_item : Stmt := topS 27
abbrev nm_without_item : List Str := ["items", "index"]
theorem sc_without_item : FnScope nm_without_item ["items", "index"] (defScope s_without_item) :=
  ⟨rfl, rfl, rfl, by decide +kernel, rfl, by decide +kernel, by decide +kernel⟩
abbrev s_with_moved_item : Stmt := topS 28
abbrev nm_with_moved_item : List Str := ["items", "index", "place"]
theorem sc_with_moved_item : FnScope nm_with_moved_item ["items", "index", "place"] (defScope s_with_moved_item) :=
  ⟨rfl, rfl, rfl, by decide +kernel, rfl, by decide +kernel, by decide +kernel⟩
abbrev s_with_other_item : Stmt := topS 29
abbrev nm_with_other_item : List Str := ["items", "index", "item"]
theorem sc_with_other_item : FnScope nm_with_other_item ["items", "index", "item"] (defScope s_with_other_item) :=
  ⟨rfl, rfl, rfl, by decide +kernel, rfl, by decide +kernel, by decide +kernel⟩
abbrev s_growths : Stmt := topS 30
abbrev nm_growths : List Str := ["before", "after", "old", "new"]
theorem sc_growths : FnScope nm_growths ["before", "after"] (defScope s_growths) :=
  ⟨rfl, rfl, rfl, by decide +kernel, rfl, by decide +kernel, by decide +kernel⟩
abbrev s_effect_of_insert : Stmt := topS 31
abbrev nm_effect_of_insert : List Str := ["start", "heights", "index", "height", "after"]
theorem sc_effect_of_insert : FnScope nm_effect_of_insert ["start", "heights", "index", "height"] (defScope s_effect_of_insert) :=
  ⟨rfl, rfl, rfl, by decide +kernel, rfl, by decide +kernel, by decide +kernel⟩
abbrev s_effect_of_remove : Stmt := topS 32
abbrev nm_effect_of_remove : List Str := ["start", "heights", "index", "before"]
theorem sc_effect_of_remove : FnScope nm_effect_of_remove ["start", "heights", "index"] (defScope s_effect_of_remove) :=
  ⟨rfl, rfl, rfl, by decide +kernel, rfl, by decide +kernel, by decide +kernel⟩
abbrev s_effect_of_move : Stmt := topS 33
abbrev nm_effect_of_move : List Str := ["start", "heights", "index", "place", "before", "after"]
theorem sc_effect_of_move : FnScope nm_effect_of_move ["start", "heights", "index", "place"] (defScope s_effect_of_move) :=
  ⟨rfl, rfl, rfl, by decide +kernel, rfl, by decide +kernel, by decide +kernel⟩
abbrev s_effect_of_stretch : Stmt := topS 34
abbrev nm_effect_of_stretch : List Str := ["start", "heights", "index", "height"]
theorem sc_effect_of_stretch : FnScope nm_effect_of_stretch ["start", "heights", "index", "height"] (defScope s_effect_of_stretch) :=
  ⟨rfl, rfl, rfl, by decide +kernel, rfl, by decide +kernel, by decide +kernel⟩
abbrev s_effect_of_exchange : Stmt := topS 35
abbrev nm_effect_of_exchange : List Str := ["start", "heights", "index"]
theorem sc_effect_of_exchange : FnScope nm_effect_of_exchange ["start", "heights", "index"] (defScope s_effect_of_exchange) :=
  ⟨rfl, rfl, rfl, by decide +kernel, rfl, by decide +kernel, by decide +kernel⟩
abbrev s_law_open_source : Stmt := topS 37
abbrev nm_law_open_source : List Str := ["script", "k", "cell"]
theorem sc_law_open_source : FnScope nm_law_open_source ["script", "k"] (defScope s_law_open_source) :=
  ⟨rfl, rfl, rfl, by decide +kernel, rfl, by decide +kernel, by decide +kernel⟩
abbrev s_law_draw : Stmt := topS 38
abbrev nm_law_draw : List Str := ["source", "limit", "digit", "mixed"]
theorem sc_law_draw : FnScope nm_law_draw ["source", "limit"] (defScope s_law_draw) :=
  ⟨rfl, rfl, rfl, by decide +kernel, rfl, by decide +kernel, by decide +kernel⟩
abbrev s_law_height : Stmt := topS 39
abbrev nm_law_height : List Str := ["source"]
theorem sc_law_height : FnScope nm_law_height ["source"] (defScope s_law_height) :=
  ⟨rfl, rfl, rfl, by decide +kernel, rfl, by decide +kernel, by decide +kernel⟩
abbrev s_law_columns : Stmt := topS 40
abbrev nm_law_columns : List Str := ["source", "script", "many", "style", "found", "k", "some"]
theorem sc_law_columns : FnScope nm_law_columns ["source", "script"] (defScope s_law_columns) :=
  ⟨rfl, rfl, rfl, by decide +kernel, rfl, by decide +kernel, by decide +kernel⟩
abbrev s_law_cards : Stmt := topS 41
abbrev nm_law_cards : List Str := ["source", "script", "most", "many", "style", "same", "found", "k", "some"]
theorem sc_law_cards : FnScope nm_law_cards ["source", "script", "most"] (defScope s_law_cards) :=
  ⟨rfl, rfl, rfl, by decide +kernel, rfl, by decide +kernel, by decide +kernel⟩
abbrev s_law_edited : Stmt := topS 42
abbrev nm_law_edited : List Str := ["kind", "cards", "spot", "other", "rest", "pair"]
theorem sc_law_edited : FnScope nm_law_edited ["kind", "cards", "spot", "other"] (defScope s_law_edited) :=
  ⟨rfl, rfl, rfl, by decide +kernel, rfl, by decide +kernel, by decide +kernel⟩
abbrev s_law_change : Stmt := topS 43
abbrev nm_law_change : List Str := ["source", "cards", "many", "kinds", "kind", "spot"]
theorem sc_law_change : FnScope nm_law_change ["source", "cards"] (defScope s_law_change) :=
  ⟨rfl, rfl, rfl, by decide +kernel, rfl, by decide +kernel, by decide +kernel⟩
abbrev s_law_told : Stmt := topS 44
abbrev nm_law_told : List Str := ["start", "cards", "change", "kind", "spot", "other"]
theorem sc_law_told : FnScope nm_law_told ["start", "cards", "change"] (defScope s_law_told) :=
  ⟨rfl, rfl, rfl, by decide +kernel, rfl, by decide +kernel, by decide +kernel⟩
abbrev s_law_followed : Stmt := topS 45
abbrev nm_law_followed : List Str := ["known", "names", "change", "found", "after", "new_name", "kind", "spot", "other", "rest", "name", "grown"]
theorem sc_law_followed : FnScope nm_law_followed ["known", "names", "change", "found", "after", "new_name"] (defScope s_law_followed) :=
  ⟨rfl, rfl, rfl, by decide +kernel, rfl, by decide +kernel, by decide +kernel⟩
abbrev s_law_ends_right : Stmt := topS 46
abbrev nm_law_ends_right : List Str := ["start", "cards", "many"]
theorem sc_law_ends_right : FnScope nm_law_ends_right ["start", "cards"] (defScope s_law_ends_right) :=
  ⟨rfl, rfl, rfl, by decide +kernel, rfl, by decide +kernel, by decide +kernel⟩
abbrev s_law : Stmt := topS 47
abbrev nm_law : List Str := ["script", "k", "source", "start", "cards", "names", "known", "step", "change", "later", "gone", "new", "before", "after", "found", "old", "kept", "spot", "top", "low", "high", "name"]
theorem sc_law : FnScope nm_law ["script"] (defScope s_law) :=
  ⟨rfl, rfl, rfl, by decide +kernel, rfl, by decide +kernel, by decide +kernel⟩
structure Txt (K : PySem.W.Frag) (mg : Str → Option Value) where
  a_is_integer_within : Addr
  d_is_integer_within : FuncData
  F_is_integer_within : Fun K "is_integer_within" "is_integer_within" s_is_integer_within a_is_integer_within d_is_integer_within
  b_is_integer_within : Binds K d_is_integer_within ["value", "least", "greatest"] []
  g_is_integer_within : mg "is_integer_within" = some (.ref a_is_integer_within)
  a_is_list_of_integers : Addr
  d_is_list_of_integers : FuncData
  F_is_list_of_integers : Fun K "is_list_of_integers" "is_list_of_integers" s_is_list_of_integers a_is_list_of_integers d_is_list_of_integers
  b_is_list_of_integers : Binds K d_is_list_of_integers ["value", "fewest", "most", "least", "greatest"] []
  g_is_list_of_integers : mg "is_list_of_integers" = some (.ref a_is_list_of_integers)
  a_is_one_height : Addr
  d_is_one_height : FuncData
  F_is_one_height : Fun K "is_one_height" "is_one_height" s_is_one_height a_is_one_height d_is_one_height
  b_is_one_height : Binds K d_is_one_height ["value"] []
  g_is_one_height : mg "is_one_height" = some (.ref a_is_one_height)
  a_check_height : Addr
  d_check_height : FuncData
  F_check_height : Fun K "check_height" "check_height" s_check_height a_check_height d_check_height
  b_check_height : Binds K d_check_height ["height"] []
  g_check_height : mg "check_height" = some (.ref a_check_height)
  a_check_index : Addr
  d_check_index : FuncData
  F_check_index : Fun K "check_index" "check_index" s_check_index a_check_index d_check_index
  b_check_index : Binds K d_check_index ["index", "many"] []
  g_check_index : mg "check_index" = some (.ref a_check_index)
  a_is_start : Addr
  d_is_start : FuncData
  F_is_start : Fun K "is_start" "is_start" s_is_start a_is_start d_is_start
  b_is_start : Binds K d_is_start ["value"] []
  g_is_start : mg "is_start" = some (.ref a_is_start)
  a_is_cards : Addr
  d_is_cards : FuncData
  F_is_cards : Fun K "is_cards" "is_cards" s_is_cards a_is_cards d_is_cards
  b_is_cards : Binds K d_is_cards ["value"] []
  g_is_cards : mg "is_cards" = some (.ref a_is_cards)
  a_check_start : Addr
  d_check_start : FuncData
  F_check_start : Fun K "check_start" "check_start" s_check_start a_check_start d_check_start
  b_check_start : Binds K d_check_start ["start"] []
  g_check_start : mg "check_start" = some (.ref a_check_start)
  a_check_cards : Addr
  d_check_cards : FuncData
  F_check_cards : Fun K "check_cards" "check_cards" s_check_cards a_check_cards d_check_cards
  b_check_cards : Binds K d_check_cards ["heights"] []
  g_check_cards : mg "check_cards" = some (.ref a_check_cards)
  a_check_start_and_cards : Addr
  d_check_start_and_cards : FuncData
  F_check_start_and_cards : Fun K "check_start_and_cards" "check_start_and_cards" s_check_start_and_cards a_check_start_and_cards d_check_start_and_cards
  b_check_start_and_cards : Binds K d_check_start_and_cards ["start", "heights"] []
  g_check_start_and_cards : mg "check_start_and_cards" = some (.ref a_check_start_and_cards)
  a_lowest_column : Addr
  d_lowest_column : FuncData
  F_lowest_column : Fun K "lowest_column" "lowest_column" s_lowest_column a_lowest_column d_lowest_column
  b_lowest_column : Binds K d_lowest_column ["columns", "right"] []
  g_lowest_column : mg "lowest_column" = some (.ref a_lowest_column)
  a_lay_cards : Addr
  d_lay_cards : FuncData
  F_lay_cards : Fun K "lay_cards" "lay_cards" s_lay_cards a_lay_cards d_lay_cards
  b_lay_cards : Binds K d_lay_cards ["start", "heights", "right"] []
  g_lay_cards : mg "lay_cards" = some (.ref a_lay_cards)
  a_tops_of : Addr
  d_tops_of : FuncData
  F_tops_of : Fun K "tops_of" "tops_of" s_tops_of a_tops_of d_tops_of
  b_tops_of : Binds K d_tops_of ["start", "heights"] []
  g_tops_of : mg "tops_of" = some (.ref a_tops_of)
  a_end_of : Addr
  d_end_of : FuncData
  F_end_of : Fun K "end_of" "end_of" s_end_of a_end_of d_end_of
  b_end_of : Binds K d_end_of ["start", "heights"] []
  g_end_of : mg "end_of" = some (.ref a_end_of)
  a_with_item : Addr
  d_with_item : FuncData
  F_with_item : Fun K "with_item" "with_item" s_with_item a_with_item d_with_item
  b_with_item : Binds K d_with_item ["items", "index", "item"] []
  g_with_item : mg "with_item" = some (.ref a_with_item)
  a_without_item : Addr
  d_without_item : FuncData
  F_without_item : Fun K "without_item" "without_item" s_without_item a_without_item d_without_item
  b_without_item : Binds K d_without_item ["items", "index"] []
  g_without_item : mg "without_item" = some (.ref a_without_item)
  a_with_moved_item : Addr
  d_with_moved_item : FuncData
  F_with_moved_item : Fun K "with_moved_item" "with_moved_item" s_with_moved_item a_with_moved_item d_with_moved_item
  b_with_moved_item : Binds K d_with_moved_item ["items", "index", "place"] []
  g_with_moved_item : mg "with_moved_item" = some (.ref a_with_moved_item)
  a_with_other_item : Addr
  d_with_other_item : FuncData
  F_with_other_item : Fun K "with_other_item" "with_other_item" s_with_other_item a_with_other_item d_with_other_item
  b_with_other_item : Binds K d_with_other_item ["items", "index", "item"] []
  g_with_other_item : mg "with_other_item" = some (.ref a_with_other_item)
  a_growths : Addr
  d_growths : FuncData
  F_growths : Fun K "growths" "growths" s_growths a_growths d_growths
  b_growths : Binds K d_growths ["before", "after"] []
  g_growths : mg "growths" = some (.ref a_growths)
  a_effect_of_insert : Addr
  d_effect_of_insert : FuncData
  F_effect_of_insert : Fun K "effect_of_insert" "effect_of_insert" s_effect_of_insert a_effect_of_insert d_effect_of_insert
  b_effect_of_insert : Binds K d_effect_of_insert ["start", "heights", "index", "height"] []
  g_effect_of_insert : mg "effect_of_insert" = some (.ref a_effect_of_insert)
  a_effect_of_remove : Addr
  d_effect_of_remove : FuncData
  F_effect_of_remove : Fun K "effect_of_remove" "effect_of_remove" s_effect_of_remove a_effect_of_remove d_effect_of_remove
  b_effect_of_remove : Binds K d_effect_of_remove ["start", "heights", "index"] []
  g_effect_of_remove : mg "effect_of_remove" = some (.ref a_effect_of_remove)
  a_effect_of_move : Addr
  d_effect_of_move : FuncData
  F_effect_of_move : Fun K "effect_of_move" "effect_of_move" s_effect_of_move a_effect_of_move d_effect_of_move
  b_effect_of_move : Binds K d_effect_of_move ["start", "heights", "index", "place"] []
  g_effect_of_move : mg "effect_of_move" = some (.ref a_effect_of_move)
  a_effect_of_stretch : Addr
  d_effect_of_stretch : FuncData
  F_effect_of_stretch : Fun K "effect_of_stretch" "effect_of_stretch" s_effect_of_stretch a_effect_of_stretch d_effect_of_stretch
  b_effect_of_stretch : Binds K d_effect_of_stretch ["start", "heights", "index", "height"] []
  g_effect_of_stretch : mg "effect_of_stretch" = some (.ref a_effect_of_stretch)
  a_effect_of_exchange : Addr
  d_effect_of_exchange : FuncData
  F_effect_of_exchange : Fun K "effect_of_exchange" "effect_of_exchange" s_effect_of_exchange a_effect_of_exchange d_effect_of_exchange
  b_effect_of_exchange : Binds K d_effect_of_exchange ["start", "heights", "index"] []
  g_effect_of_exchange : mg "effect_of_exchange" = some (.ref a_effect_of_exchange)
  a_law_open_source : Addr
  d_law_open_source : FuncData
  F_law_open_source : Fun K "_law_open_source" "_law_open_source" s_law_open_source a_law_open_source d_law_open_source
  b_law_open_source : Binds K d_law_open_source ["script", "k"] []
  g_law_open_source : mg "_law_open_source" = some (.ref a_law_open_source)
  a_law_draw : Addr
  d_law_draw : FuncData
  F_law_draw : Fun K "_law_draw" "_law_draw" s_law_draw a_law_draw d_law_draw
  b_law_draw : Binds K d_law_draw ["source", "limit"] []
  g_law_draw : mg "_law_draw" = some (.ref a_law_draw)
  a_law_height : Addr
  d_law_height : FuncData
  F_law_height : Fun K "_law_height" "_law_height" s_law_height a_law_height d_law_height
  b_law_height : Binds K d_law_height ["source"] []
  g_law_height : mg "_law_height" = some (.ref a_law_height)
  a_law_columns : Addr
  d_law_columns : FuncData
  F_law_columns : Fun K "_law_columns" "_law_columns" s_law_columns a_law_columns d_law_columns
  b_law_columns : Binds K d_law_columns ["source", "script"] []
  g_law_columns : mg "_law_columns" = some (.ref a_law_columns)
  a_law_cards : Addr
  d_law_cards : FuncData
  F_law_cards : Fun K "_law_cards" "_law_cards" s_law_cards a_law_cards d_law_cards
  b_law_cards : Binds K d_law_cards ["source", "script", "most"] []
  g_law_cards : mg "_law_cards" = some (.ref a_law_cards)
  a_law_edited : Addr
  d_law_edited : FuncData
  F_law_edited : Fun K "_law_edited" "_law_edited" s_law_edited a_law_edited d_law_edited
  b_law_edited : Binds K d_law_edited ["kind", "cards", "spot", "other"] []
  g_law_edited : mg "_law_edited" = some (.ref a_law_edited)
  a_law_change : Addr
  d_law_change : FuncData
  F_law_change : Fun K "_law_change" "_law_change" s_law_change a_law_change d_law_change
  b_law_change : Binds K d_law_change ["source", "cards"] []
  g_law_change : mg "_law_change" = some (.ref a_law_change)
  a_law_told : Addr
  d_law_told : FuncData
  F_law_told : Fun K "_law_told" "_law_told" s_law_told a_law_told d_law_told
  b_law_told : Binds K d_law_told ["start", "cards", "change"] []
  g_law_told : mg "_law_told" = some (.ref a_law_told)
  a_law_followed : Addr
  d_law_followed : FuncData
  F_law_followed : Fun K "_law_followed" "_law_followed" s_law_followed a_law_followed d_law_followed
  b_law_followed : Binds K d_law_followed ["known", "names", "change", "found", "after", "new_name"] []
  g_law_followed : mg "_law_followed" = some (.ref a_law_followed)
  a_law_ends_right : Addr
  d_law_ends_right : FuncData
  F_law_ends_right : Fun K "_law_ends_right" "_law_ends_right" s_law_ends_right a_law_ends_right d_law_ends_right
  b_law_ends_right : Binds K d_law_ends_right ["start", "cards"] []
  g_law_ends_right : mg "_law_ends_right" = some (.ref a_law_ends_right)
  a_law : Addr
  d_law : FuncData
  F_law : Fun K "law" "law" s_law a_law d_law
  b_law : Binds K d_law ["script"] []
  g_law : mg "law" = some (.ref a_law)
  z_isinstance : mg "isinstance" = none
  z_bool : mg "bool" = none
  z_int : mg "int" = none
  z_len : mg "len" = none
  z_type : mg "type" = none
  z_list : mg "list" = none
  z_all : mg "all" = none
  z_min : mg "min" = none
  z_zip : mg "zip" = none
  z_max : mg "max" = none
  z_range : mg "range" = none
  z_dict : mg "dict" = none
  z_enumerate : mg "enumerate" = none
  t_MOST_HEIGHT : Tok
  c_MOST_HEIGHT : mg "MOST_HEIGHT" = some (.int (1000000000000000000000000000000) t_MOST_HEIGHT)
  t_MOST_COLUMNS : Tok
  c_MOST_COLUMNS : mg "MOST_COLUMNS" = some (.int (30) t_MOST_COLUMNS)
  t_MOST_CARDS : Tok
  c_MOST_CARDS : mg "MOST_CARDS" = some (.int (200) t_MOST_CARDS)
section
variable {P : Program} {w : World} {K : PySem.W.Frag} {mg : Str → Option Value} {base : Heap}
/-! ### the program -/
def spIW : Sp := fun vs H Q _ => ∃ v lo hi : Int, vs = [.int v, .int lo, .int hi] ∧ Q (.bl (decide (lo ≤ v ∧ v ≤ hi))) H
theorem ok_is_integer_within (T : Txt K mg) : FnOk P w K mg base CX0 1 T.a_is_integer_within T.d_is_integer_within ["value", "least", "greatest"] spIW := by
  refine T.F_is_integer_within.ok sc_is_integer_within (fun vs H Q E h => ?_) (fun cdv A outer s H vs Q E hr h => ?_)
  · obtain ⟨v, lo, hi, rfl, _⟩ := h; rfl
  · obtain ⟨v, lo, hi, rfl, q⟩ := h
    refine ⟨_, (pss_cons (ps_if (PW.pt (pw_or (pt_not (pt_val (pe_callB call_isi (by rfl) T.z_isinstance (by decide +kernel) (pa_cons (pv 0) (pa_cons (pe_bltn (v := .ty "int") (by rfl) T.z_int (by decide +kernel) rfl) pa_nil))))) (pw_or1 (pt_val (pe_callB call_isi (by rfl) T.z_isinstance (by decide +kernel) (pa_cons (pv 0) (pa_cons (pe_bltn (v := .ty "bool") (by rfl) T.z_bool (by decide +kernel) rfl) pa_nil)))))))
  (pss_one (ps_ret pe_bl))
  pss_nil)
  (pss_one (ps_ret (pe_chain op_le op_le (pv 1) (pv 0) (pv 2))))), ?_⟩
    refine ⟨.int v, rfl, .int v, .ty "int", .type "int", .type "int", true, rfl, .ty _, .base (.int v), kit_ty (by decide +kernel), true, rfl, ?_⟩
    refine iteF ⟨.int v, rfl, .int v, .ty "bool", .type "int", .type "bool", false, rfl, .ty _, .base (.int v), kit_ty (by decide +kernel), false, rfl, iteF ?_⟩
    refine ⟨.int lo, rfl, .int v, rfl, lo, v, rfl, rfl, decide (lo ≤ v), rfl, ?_⟩
    by_cases h1 : lo ≤ v
    · rw [decide_eq_true h1]
      refine iteT ⟨.int hi, rfl, v, hi, rfl, rfl, ?_⟩
      have e : decide (v ≤ hi) = decide (lo ≤ v ∧ v ≤ hi) := by simp [h1]
      show Q (.bl (decide (v ≤ hi))) H
      rw [e]
      exact q
    · rw [decide_eq_false h1]
      refine iteF ?_
      rw [show decide (lo ≤ v ∧ v ≤ hi) = false by simp [h1]] at q
      exact q
abbrev big : Int := 1000000000000000000000000000000
def spIL (K : PySem.W.Frag) : Sp := fun vs H Q _ => ∃ (a : Addr) (few most least gr : Int) (ns : List Int), vs = [.ref a, .int few, .int most, .int least, .int gr] ∧ SqL K H a (ns.map V.int) ∧ ns.length ≤ 90000 ∧
  ∀ H', Same H H' → Q (.bl (decide (few ≤ ns.length ∧ (ns.length : Int) ≤ most) && within least gr ns)) H'
theorem ok_is_list_of_integers (T : Txt K mg) : FnOk P w K mg base CX0 2 T.a_is_list_of_integers T.d_is_list_of_integers ["value", "fewest", "most", "least", "greatest"] (spIL K) := by
  refine T.F_is_list_of_integers.ok sc_is_list_of_integers (fun vs H Q E h => ?_) (fun cdv A outer s H vs Q E hr h => ?_)
  · obtain ⟨a, few, most, least, gr, ns, rfl, _⟩ := h; rfl
  · obtain ⟨a, few, most, least, gr, ns, rfl, hS, hlen, q⟩ := h
    refine ⟨_, (pss_cons (ps_if (PW.pt (pw_and (pt_cmpR op_eqTy (pe_callTy call_type_list (by rfl) T.z_type (by decide +kernel) (pa_cons (pv 0) pa_nil)) (pe_bltn (v := .ty "list") (by rfl) T.z_list (by decide +kernel) rfl) (nomark _)) (pw_and1 (pt_chain op_le op_le (pv 1) (pe_callB call_len_seq (by rfl) T.z_len (by decide +kernel) (pa_cons (pv 0) pa_nil)) (pv 2)))))
  (pss_one (ps_ret (pe_callB (cr_all rfl) (by rfl) T.z_all (by decide +kernel) (pa_cons (pe_lc (own := [("item", 5)]) rfl sc_is_list_of_integers.nd (pi_list (pv 0)) (blkOk_by (own := [("item", 5)]) (N := nm_is_list_of_integers) (sc := defScope s_is_list_of_integers) (by decide +kernel)) (fun _ _ _ _ _ => (pg_name (i := 5) sc_is_list_of_integers.nd rfl (.inl rfl))) (fun _ _ _ _ _ => pts_nil) (fun _ _ _ _ _ => (pe_call (ok_is_integer_within T) hr (by rfl) T.g_is_integer_within T.F_is_integer_within.kp T.b_is_integer_within .nil pass0 (pa_cons (pv 5) (pa_cons (pv 3) (pa_cons (pv 4) pa_nil)))))) pa_nil))))
  pss_nil)
  (pss_one (ps_ret pe_bl))), ?_⟩
    refine ⟨.ref a, rfl, ⟨a, _, rfl, hS, rfl, rfl, true, rfl, iteT ?_⟩⟩
    refine ⟨.int few, rfl, .ref a, rfl, a, _, rfl, .inl hS, few, _, rfl, rfl, decide (few ≤ ((ns.map V.int).length : Int)), rfl, ?_⟩
    have eL : (((ns.map V.int).length : Nat) : Int) = (ns.length : Int) := by rw [List.length_map]
    rw [eL]
    have bad : ¬ (few ≤ (ns.length : Int) ∧ (ns.length : Int) ≤ most) → Q (.bl false) H := fun hn => by
      have := q H (Same.refl H)
      rw [decide_eq_false hn] at this
      exact this
    by_cases h1 : few ≤ (ns.length : Int)
    · rw [decide_eq_true h1]
      refine iteT ⟨.int most, rfl, (ns.length : Int), most, rfl, rfl, decide ((ns.length : Int) ≤ most), rfl, ?_⟩
      by_cases h2 : (ns.length : Int) ≤ most
      · rw [decide_eq_true h2]
        refine iteT ⟨.ref a, rfl, a, rfl, ⟨_, hS⟩, fun D nD => ?_⟩
        refine lc_list (K := K) (a := a) (xs := ns.map V.int) (fun i H' => Same H H' ∧ H' D = some (.lst ((ns.take i).map fun n => V.bl (decide (least ≤ n ∧ n ≤ gr)))))
          ⟨same_new _ nD, upd_same⟩ (fun i H' _ p => p.1.seq hS) (fun i x H' e p => ?_) (fun H' p => ?_)
        · obtain ⟨n, en, rfl⟩ := get_map e
          obtain ⟨sm, eD⟩ := p
          refine ⟨rfl, ?_⟩
          refine ⟨.int n, rfl, .int least, rfl, .int gr, rfl, n, least, gr, rfl, _, eD, ?_, same_set sm nD, ?_⟩
          · rw [List.length_map, List.length_take]
            exact small_of (Nat.le_trans (Nat.min_le_right _ _) hlen) (by decide)
          · rw [upd_same, take_map_succ (fun n => V.bl (decide (least ≤ n ∧ n ≤ gr))) en]
        · obtain ⟨sm, eD⟩ := p
          rw [List.length_map, List.take_length] at eD
          refine ⟨D, ns.map (fun n => decide (least ≤ n ∧ n ≤ gr)), rfl, SqL.of (by rw [eD, List.map_map]; rfl), ?_⟩
          have := q H' sm
          rw [decide_eq_true ⟨h1, h2⟩, Bool.true_and] at this
          rw [List.all_map]
          exact this
      · rw [decide_eq_false h2]
        exact iteF (bad fun z => h2 z.2)
    · rw [decide_eq_false h1]
      exact iteF ⟨false, rfl, iteF (bad fun z => h1 z.1)⟩
/-- starts, cards -/
structure IsStart (ns : List Int) : Prop where
  len : 1 ≤ ns.length ∧ ns.length ≤ 30
  all : ∀ n ∈ ns, 0 ≤ n ∧ n ≤ big
structure IsCards (ns : List Int) : Prop where
  len : ns.length ≤ 200
  all : ∀ n ∈ ns, 1 ≤ n ∧ n ≤ big
theorem within_of {lo hi : Int} {ns : List Int} (h : ∀ n ∈ ns, lo ≤ n ∧ n ≤ hi) : within lo hi ns = true := List.all_eq_true.mpr fun n hn => decide_eq_true (h n hn)
def spSt (K : PySem.W.Frag) : Sp := fun vs H Q _ => ∃ (a : Addr) (ns : List Int), vs = [.ref a] ∧ SqL K H a (ns.map V.int) ∧ IsStart ns ∧ ∀ H', Same H H' → Q (.bl true) H'
def spCd (K : PySem.W.Frag) : Sp := fun vs H Q _ => ∃ (a : Addr) (ns : List Int), vs = [.ref a] ∧ SqL K H a (ns.map V.int) ∧ IsCards ns ∧ ∀ H', Same H H' → Q (.bl true) H'
theorem ok_is_start (T : Txt K mg) : FnOk P w K mg base CX0 3 T.a_is_start T.d_is_start ["value"] (spSt K) := by
  refine T.F_is_start.ok sc_is_start (fun vs H Q E h => ?_) (fun cdv A outer s H vs Q E hr h => ?_)
  · obtain ⟨a, ns, rfl, _⟩ := h; rfl
  · obtain ⟨a, ns, rfl, hS, st, q⟩ := h
    refine ⟨_, (pss_one (ps_ret (pe_call (ok_is_list_of_integers T) hr (by rfl) T.g_is_list_of_integers T.F_is_list_of_integers.kp T.b_is_list_of_integers .nil pass0 (pa_cons (pv 0) (pa_cons pe_int (pa_cons (pe_glob (v := .int 30) (by rfl) T.c_MOST_COLUMNS ⟨_, rfl⟩) (pa_cons pe_int (pa_cons (pe_glob (v := .int 1000000000000000000000000000000) (by rfl) T.c_MOST_HEIGHT ⟨_, rfl⟩) pa_nil)))))))), ?_⟩
    refine ⟨.ref a, rfl, a, 1, 30, 0, big, ns, rfl, hS, by have := st.len; omega, fun H' sm => ?_⟩
    have := st.len
    rw [within_of st.all, decide_eq_true (by omega)]
    exact q H' sm
theorem ok_is_cards (T : Txt K mg) : FnOk P w K mg base CX0 3 T.a_is_cards T.d_is_cards ["value"] (spCd K) := by
  refine T.F_is_cards.ok sc_is_cards (fun vs H Q E h => ?_) (fun cdv A outer s H vs Q E hr h => ?_)
  · obtain ⟨a, ns, rfl, _⟩ := h; rfl
  · obtain ⟨a, ns, rfl, hS, st, q⟩ := h
    refine ⟨_, (pss_one (ps_ret (pe_call (ok_is_list_of_integers T) hr (by rfl) T.g_is_list_of_integers T.F_is_list_of_integers.kp T.b_is_list_of_integers .nil pass0 (pa_cons (pv 0) (pa_cons pe_int (pa_cons (pe_glob (v := .int 200) (by rfl) T.c_MOST_CARDS ⟨_, rfl⟩) (pa_cons pe_int (pa_cons (pe_glob (v := .int 1000000000000000000000000000000) (by rfl) T.c_MOST_HEIGHT ⟨_, rfl⟩) pa_nil)))))))), ?_⟩
    refine ⟨.ref a, rfl, a, 0, 200, 1, big, ns, rfl, hS, by have := st.len; omega, fun H' sm => ?_⟩
    have := st.len
    rw [within_of st.all, decide_eq_true (by omega)]
    exact q H' sm
def spCSt (K : PySem.W.Frag) : Sp := fun vs H Q _ => ∃ (a : Addr) (ns : List Int), vs = [.ref a] ∧ SqL K H a (ns.map V.int) ∧ IsStart ns ∧ ∀ H', Same H H' → Q .non H'
def spCCd (K : PySem.W.Frag) : Sp := fun vs H Q _ => ∃ (a : Addr) (ns : List Int), vs = [.ref a] ∧ SqL K H a (ns.map V.int) ∧ IsCards ns ∧ ∀ H', Same H H' → Q .non H'
theorem ok_check_start (T : Txt K mg) : FnOk P w K mg base CX0 4 T.a_check_start T.d_check_start ["start"] (spCSt K) := by
  refine T.F_check_start.ok sc_check_start (fun vs H Q E h => ?_) (fun cdv A outer s H vs Q E hr h => ?_)
  · obtain ⟨a, ns, rfl, _⟩ := h; rfl
  · obtain ⟨a, ns, rfl, hS, st, q⟩ := h
    refine ⟨_, (pss_one (ps_if (pt_not (pt_val (pe_call (ok_is_start T) hr (by rfl) T.g_is_start T.F_is_start.kp T.b_is_start .nil pass0 (pa_cons (pv 0) pa_nil))))
  (pss_one ps_never)
  pss_nil)), ?_⟩
    exact ⟨.ref a, rfl, a, ns, rfl, hS, st, fun H' sm => ⟨true, rfl, iteF (q H' sm)⟩⟩
theorem ok_check_cards (T : Txt K mg) : FnOk P w K mg base CX0 4 T.a_check_cards T.d_check_cards ["heights"] (spCCd K) := by
  refine T.F_check_cards.ok sc_check_cards (fun vs H Q E h => ?_) (fun cdv A outer s H vs Q E hr h => ?_)
  · obtain ⟨a, ns, rfl, _⟩ := h; rfl
  · obtain ⟨a, ns, rfl, hS, st, q⟩ := h
    refine ⟨_, (pss_one (ps_if (pt_not (pt_val (pe_call (ok_is_cards T) hr (by rfl) T.g_is_cards T.F_is_cards.kp T.b_is_cards .nil pass0 (pa_cons (pv 0) pa_nil))))
  (pss_one ps_never)
  pss_nil)), ?_⟩
    exact ⟨.ref a, rfl, a, ns, rfl, hS, st, fun H' sm => ⟨true, rfl, iteF (q H' sm)⟩⟩
def spCSC (K : PySem.W.Frag) : Sp := fun vs H Q _ => ∃ (a b : Addr) (xs ns : List Int), vs = [.ref a, .ref b] ∧ SqL K H a (xs.map V.int) ∧ SqL K H b (ns.map V.int) ∧ IsStart xs ∧ IsCards ns ∧ ∀ H', Same H H' → Q .non H'
theorem ok_check_start_and_cards (T : Txt K mg) : FnOk P w K mg base CX0 5 T.a_check_start_and_cards T.d_check_start_and_cards ["start", "heights"] (spCSC K) := by
  refine T.F_check_start_and_cards.ok sc_check_start_and_cards (fun vs H Q E h => ?_) (fun cdv A outer s H vs Q E hr h => ?_)
  · obtain ⟨a, b, xs, ns, rfl, _⟩ := h; rfl
  · obtain ⟨a, b, xs, ns, rfl, hA, hB, st, cd, q⟩ := h
    refine ⟨_, (pss_cons (ps_expr (pe_call (ok_check_start T) hr (by rfl) T.g_check_start T.F_check_start.kp T.b_check_start .nil pass0 (pa_cons (pv 0) pa_nil)))
  (pss_one (ps_expr (pe_call (ok_check_cards T) hr (by rfl) T.g_check_cards T.F_check_cards.kp T.b_check_cards .nil pass0 (pa_cons (pv 1) pa_nil))))), ?_⟩
    exact ⟨.ref a, rfl, a, xs, rfl, hA, st, fun H1 s1 => ⟨.ref b, rfl, b, ns, rfl, s1.seq hB, cd, fun H2 s2 => q H2 (s1.trans s2)⟩⟩
end

section
variable {P : Program} {w : World} {K : PySem.W.Frag} {mg : Str → Option Value} {base : Heap}
def spLow (K : PySem.W.Frag) : Sp := fun vs H Q _ => ∃ (a : Addr) (r : Bool) (cs : List Int), vs = [.ref a, .bl r] ∧ SqL K H a (cs.map V.int) ∧ cs ≠ [] ∧ ∀ H', Same H H' → Q (.int (low r cs : Nat)) H'
theorem eqV_ne {x y : Int} (h : x ≠ y) : eqV (.int x) (.int y) = false := by
  show (x == y) = false
  exact beq_false_of_ne h
theorem flats (ns : List Int) : (ns.map V.int).all flatV = true := by
  rw [List.all_map]
  exact List.all_eq_true.mpr fun _ _ => rfl
theorem ok_lowest_column (T : Txt K mg) : FnOk P w K mg base CX0 1 T.a_lowest_column T.d_lowest_column ["columns", "right"] (spLow K) := by
  refine T.F_lowest_column.ok sc_lowest_column (fun vs H Q E h => ?_) (fun cdv A outer s H vs Q E hr h => ?_)
  · obtain ⟨a, r, cs, rfl, _⟩ := h; rfl
  · obtain ⟨a, r, cs, rfl, hS, hne, q⟩ := h
    refine ⟨_, (pss_cons (ps_set (i := 2) sc_lowest_column.nd rfl (.inl rfl) (pe_callB (cr_min rfl) (by rfl) T.z_min (by decide +kernel) (pa_cons (pv 0) pa_nil)))
  (pss_cons (ps_if (pt_val (pv 1))
  (pss_one (ps_ret (pe_op op_sub (pe_op op_sub (pe_callB call_len_seq (by rfl) T.z_len (by decide +kernel) (pa_cons (pv 0) pa_nil)) pe_int) (pe_bm PySem.F.plainAttrs_list PySem.F.slot_list_index PySem.F.type_list_index mt_index (pe_revL (pv 0)) (pa_cons (pv 2) pa_nil)))))
  pss_nil)
  (pss_one (ps_ret (pe_bm PySem.F.plainAttrs_list PySem.F.slot_list_index PySem.F.type_list_index mt_index (pv 0) (pa_cons (pv 2) pa_nil)))))), ?_⟩
    have hpos : 0 < cs.length := List.length_pos_iff.mpr hne
    refine ⟨.ref a, rfl, a, cs, rfl, hS, hpos, fun m hm hle => ?_⟩
    have em : m = mn cs := (mn_eq hm hle).symm
    subst em
    refine ⟨.bl r, rfl, r, rfl, ?_⟩
    cases r with
    | true =>
      have hm2 : mn cs ∈ cs.reverse := List.mem_reverse.mpr hm
      have il : ix (mn cs) cs.reverse < cs.length := by
        have := get_lt (ix_get hm2)
        rwa [List.length_reverse] at this
      refine ⟨.ref a, rfl, a, _, rfl, .inl hS, _, 1, rfl, rfl, .ref a, rfl, a, _, rfl, hS, fun p np => ?_⟩
      have sm : Same H (upd H p (.lst (cs.map V.int).reverse)) := same_new _ np
      have er : (cs.map V.int).reverse = cs.reverse.map V.int := List.map_reverse.symm
      refine ⟨.inl ⟨rfl, _, SqL.of upd_same⟩, .int (mn cs), rfl, p, _, .int (mn cs), ix (mn cs) cs.reverse, .int (mn cs), rfl, rfl, SqL.of upd_same, rfl, ?_, ?_, ?_, ?_, ?_⟩
      · rw [er]; exact flats _
      · rw [er, List.getElem?_map, ix_get hm2]; rfl
      · show (mn cs == mn cs) = true
        exact beq_self_eq_true _
      · intro k z hk hz
        rw [er] at hz
        obtain ⟨n, en, rfl⟩ := get_map hz
        exact eqV_ne (ix_first hk en)
      · refine ⟨_, _, rfl, rfl, ?_⟩
        have := q _ sm
        have e : (((low true cs : Nat)) : Int) = (((cs.map V.int).length : Nat) : Int) - 1 - ((ix (mn cs) cs.reverse : Nat) : Int) := by
          show (((if true = true then cs.length - 1 - ix (mn cs) cs.reverse else ix (mn cs) cs : Nat)) : Int) = _
          rw [if_pos rfl, List.length_map]
          omega
        rw [e] at this
        exact this
    | false =>
      refine ⟨.ref a, rfl, .inl ⟨rfl, _, hS⟩, .int (mn cs), rfl, a, _, .int (mn cs), ix (mn cs) cs, .int (mn cs), rfl, rfl, hS, rfl, flats _, ?_, ?_, ?_, q H (Same.refl H)⟩
      · rw [List.getElem?_map, ix_get hm]; rfl
      · show (mn cs == mn cs) = true
        exact beq_self_eq_true _
      · intro k z hk hz
        obtain ⟨n, en, rfl⟩ := get_map hz
        exact eqV_ne (ix_first hk en)
/-- a list of tuples (column, top) -/
def Prs (H : Hp) (l : List V) (ps : List (Nat × Int)) : Prop := l.length = ps.length ∧ ∀ (i : Nat) (v : V) (p : Nat × Int), l[i]? = some v → ps[i]? = some p → ∃ q, v = .ref q ∧ H q = some (.tup [.int p.1, .int p.2])
theorem Prs.same {H H' : Hp} {l : List V} {ps : List (Nat × Int)} (h : Prs H l ps) (s : Same H H') : Prs H' l ps := ⟨h.1, fun i v p e1 e2 => by
  obtain ⟨q, e, hq⟩ := h.2 i v p e1 e2
  exact ⟨q, e, s _ _ hq⟩⟩
theorem Prs.but {H H' : Hp} {a : Addr} {l : List V} {ps : List (Nat × Int)} (h : Prs H l ps) (n : ∀ xs, H a ≠ some (.tup xs)) (s : But a H H') : Prs H' l ps := ⟨h.1, fun i v p e1 e2 => by
  obtain ⟨q, e, hq⟩ := h.2 i v p e1 e2
  exact ⟨q, e, s _ _ (fun z => n _ (z ▸ hq)) hq⟩⟩
theorem Prs.snoc {H : Hp} {l : List V} {ps : List (Nat × Int)} {q : Addr} {p : Nat × Int} (h : Prs H l ps) (hq : H q = some (.tup [.int p.1, .int p.2])) : Prs H (l ++ [.ref q]) (ps ++ [p]) := by
  refine ⟨by rw [List.length_append, List.length_append, h.1]; rfl, fun i v p' e1 e2 => ?_⟩
  by_cases hi : i < l.length
  · rw [List.getElem?_append_left hi] at e1
    rw [List.getElem?_append_left (by rw [← h.1]; exact hi)] at e2
    exact h.2 i v p' e1 e2
  · rw [List.getElem?_append_right (by omega)] at e1
    rw [List.getElem?_append_right (by rw [← h.1]; omega), ← h.1] at e2
    cases hk : i - l.length with
    | zero =>
      rw [hk] at e1 e2
      cases e1
      cases e2
      exact ⟨q, rfl, hq⟩
    | succ k => rw [hk] at e1; cases e1
def spLay (K : PySem.W.Frag) : Sp := fun vs H Q _ => ∃ (a b : Addr) (r : Bool) (cs hs : List Int), vs = [.ref a, .ref b, .bl r] ∧ SqL K H a (cs.map V.int) ∧ SqL K H b (hs.map V.int) ∧ cs ≠ [] ∧ hs.length ≤ 90000 ∧ cs.length ≤ 90000 ∧
  ∀ H' t p c l, Same H H' → H t = none → H p = none → H c = none → H' t = some (.tup [.ref p, .ref c]) → H' p = some (.lst l) → Prs H' l (play r cs hs).1 → H' c = some (.lst ((play r cs hs).2.map V.int)) → Q (.ref t) H'
theorem ok_lay_cards (T : Txt K mg) : FnOk P w K mg base CX0 2 T.a_lay_cards T.d_lay_cards ["start", "heights", "right"] (spLay K) := by
  refine T.F_lay_cards.ok sc_lay_cards (fun vs H Q E h => ?_) (fun cdv A outer s H vs Q E hr h => ?_)
  · obtain ⟨a, b, r, cs, hs, rfl, _⟩ := h; rfl
  · obtain ⟨a, b, r, cs, hs, rfl, hA, hB, hne, hl1, hl2, q⟩ := h
    refine ⟨_, (pss_cons (ps_set (i := 3) sc_lay_cards.nd rfl (.inl rfl) (pe_callTy call_list_of (by rfl) T.z_list (by decide +kernel) (pa_cons (pv 0) pa_nil)))
  (pss_cons (ps_set (i := 4) sc_lay_cards.nd rfl (.inl rfl) (pe_lst pa_nil))
  (pss_cons (ps_for PassesOwn.never rfl (pi_list (pv 1)) (pg_name (i := 5) sc_lay_cards.nd rfl (.inl rfl))
  (pss_cons (ps_set (i := 6) sc_lay_cards.nd rfl (.inl rfl) (pe_call (ok_lowest_column T) hr (by rfl) T.g_lowest_column T.F_lowest_column.kp T.b_lowest_column .nil pass0 (pa_cons (pv 3) (pa_cons (pv 2) pa_nil))))
  (pss_cons (ps_set (i := 7) sc_lay_cards.nd rfl (.inl rfl) (pe_ix ix_list (pv 3) (pv 6) (fun _ _ => rfl)))
  (pss_cons (ps_expr (pe_bm PySem.F.plainAttrs_list PySem.F.slot_list_append PySem.F.type_list_append mt_append (pv 4) (pa_cons (pe_tup (pa_cons (pv 6) (pa_cons (pv 7) pa_nil))) pa_nil)))
  (pss_one (ps_asg (pe_op op_add (pv 7) (pv 5)) (pg_sub (pv 3) (pv 6) set_list)))))))
  (pss_one (ps_ret (pe_tup (pa_cons (pv 4) (pa_cons (pv 3) pa_nil)))))))), ?_⟩
    refine ⟨.ref a, rfl, a, _, rfl, .inl hA, fun c nc => ?_⟩
    have s1 : Same H (upd H c (.lst (cs.map V.int))) := same_new _ nc
    refine ⟨Nat.zero_le _, fun p np => ?_⟩
    have s2 : Same H (upd (upd H c (.lst (cs.map V.int))) p (.lst [])) := same_lay s1 np
    have npc : p ≠ c := fun e => by rw [e, upd_same] at np; cases np
    have nH : H p = none := s1.free np
    refine ⟨.ref b, rfl, b, rfl, ⟨_, s2.seq hB⟩, ?_⟩
    refine for_list (K := K) (a := b) (xs := hs.map V.int) (fun i σ H1 => ∃ y5 y6 y7 l, σ = [some (.ref a), some (.ref b), some (.bl r), some (.ref c), some (.ref p), y5, y6, y7] ∧ Same H H1 ∧
        H1 c = some (.lst ((play r cs (hs.take i)).2.map V.int)) ∧ H1 p = some (.lst l) ∧ Prs H1 l (play r cs (hs.take i)).1)
      ⟨none, none, none, [], rfl, s2, ?_, ?_, rfl, fun i v p e => by cases e⟩ (fun i σ H1 _ h => ?_) (fun i x σ H1 hx h => ?_) (fun σ H1 h => ?_)
    · rw [upd_ne npc.symm, upd_same]; rfl
    · rw [upd_same]
    · obtain ⟨_, _, _, _, _, sm, _⟩ := h
      exact sm.seq hB
    · obtain ⟨y5, y6, y7, l, rfl, sm, hc, hp, hP⟩ := h
      obtain ⟨n, en, rfl⟩ := get_map hx
      have hne1 : (play r cs (hs.take i)).2 ≠ [] := play_ne hne
      refine ⟨.ref c, rfl, .bl r, rfl, c, r, _, rfl, SqL.of hc, hne1, fun H2 sA => ?_⟩
      have hc2 := sA _ _ hc
      have hp2 := sA _ _ hp
      have e0 : ((play r cs (hs.take i)).2.map V.int)[low r (play r cs (hs.take i)).2]? = some (.int (mn (play r cs (hs.take i)).2)) := by
        rw [List.getElem?_map, low_get hne1]; rfl
      refine ⟨.ref c, rfl, _, rfl, c, _, _, .int (mn (play r cs (hs.take i)).2), rfl, rfl, SqL.of hc2, atI_nat e0, ?_⟩
      refine ⟨.ref p, rfl, .inl ⟨rfl, _, SqL.of hp2⟩, _, rfl, _, rfl, (by show 2 ≤ sizeLine; decide), fun t nt => ?_⟩
      have nt1 : H2 t = none := nt
      have npt : p ≠ t := ne_of_none hp2 nt1
      have nct : c ≠ t := ne_of_none hc2 nt1
      refine ⟨p, l, _, rfl, rfl, ?_, ?_, ?_⟩
      · rw [upd_ne npt]; exact hp2
      · have e1 := hP.1
        rw [play_len] at e1
        rw [e1, List.length_take]
        exact small_of (Nat.le_trans (Nat.min_le_right _ _) hl1) (by decide)
      · refine ⟨_, rfl, _, rfl, _, _, rfl, rfl, .ref c, rfl, _, rfl, c, (play r cs (hs.take i)).2.map V.int, _, low r (play r cs (hs.take i)).2, rfl, rfl, ?_, ?_, ?_⟩
        · show upd (upd H2 t _) p _ c = _
          rw [upd_ne (Ne.symm npc), upd_ne nct]; exact hc2
        · exact ixN_nat (by rw [List.length_map]; exact low_lt hne1)
        · have e2 : (hs.take (i + 1)) = hs.take i ++ [n] := by rw [List.take_add_one, en]; rfl
          have sB : Same H2 (upd H2 t (.tup [.int (low r (play r cs (hs.take i)).2 : Nat), .int (mn (play r cs (hs.take i)).2)])) := same_new _ nt1
          have hPt : Prs (upd H2 t (.tup [.int (low r (play r cs (hs.take i)).2 : Nat), .int (mn (play r cs (hs.take i)).2)])) l (play r cs (hs.take i)).1 := (hP.same sA).same sB
          refine ⟨_, _, _, l ++ [.ref t], rfl, ?_, ?_, ?_, ?_⟩
          · exact same_set (same_set (sm.trans (sA.trans sB)) nH) nc
          · rw [upd_same, e2, play_snoc]
            show _ = some (HO.lst (((play r cs (hs.take i)).2.set _ _).map V.int))
            rw [List.map_set]
          · rw [upd_ne npc, upd_same]
          · rw [e2, play_snoc]
            refine Prs.but (a := c) (Prs.but (a := p) (Prs.snoc hPt upd_same) (fun xs e => ?_) (But.upd _ _ _)) (fun xs e => ?_) (But.upd _ _ _)
            · rw [upd_ne npt, hp2] at e; cases e
            · rw [upd_ne (Ne.symm npc), upd_ne nct, hc2] at e; cases e
    · obtain ⟨y5, y6, y7, l, rfl, sm, hc, hp, hP⟩ := h
      rw [List.length_map, List.take_length] at hc hP
      refine ⟨.ref p, rfl, .ref c, rfl, (by show 2 ≤ sizeLine; decide), fun t nt => ?_⟩
      have sT := same_new (H := H1) (p := t) (.tup [.ref p, .ref c]) nt
      exact q _ t p c l (sm.trans sT) (sm.free nt) nH nc upd_same (sT _ _ hp) (hP.same sT) (sT _ _ hc)

end

section
variable {P : Program} {w : World} {K : PySem.W.Frag} {mg : Str → Option Value} {base : Heap}
/-- the tops of the cards -/
def spTops (K : PySem.W.Frag) : Sp := fun vs H Q _ => ∃ (a b : Addr) (cs hs : List Int), vs = [.ref a, .ref b] ∧ SqL K H a (cs.map V.int) ∧ SqL K H b (hs.map V.int) ∧ IsStart cs ∧ IsCards hs ∧
  ∀ H' p, Same H H' → H p = none → H' p = some (.lst ((tops cs hs).map V.int)) → Q (.ref p) H'
theorem ok_tops_of (T : Txt K mg) : FnOk P w K mg base CX0 6 T.a_tops_of T.d_tops_of ["start", "heights"] (spTops K) := by
  refine T.F_tops_of.ok sc_tops_of (fun vs H Q E h => ?_) (fun cdv A outer s H vs Q E hr h => ?_)
  · obtain ⟨a, b, cs, hs, rfl, _⟩ := h; rfl
  · obtain ⟨a, b, cs, hs, rfl, hA, hB, st, cd, q⟩ := h
    refine ⟨_, (pss_cons (ps_expr (pe_call (ok_check_start_and_cards T) hr (by rfl) T.g_check_start_and_cards T.F_check_start_and_cards.kp T.b_check_start_and_cards .nil pass0 (pa_cons (pv 0) (pa_cons (pv 1) pa_nil))))
  (pss_cons (ps_asg (pe_call (ok_lay_cards T) (hr.mono (by decide)) (by rfl) T.g_lay_cards T.F_lay_cards.kp T.b_lay_cards .nil pass0 (pa_cons (pv 0) (pa_cons (pv 1) (pa_cons pe_bl pa_nil)))) (pg_tup rfl (pgs_cons (pg_name (i := 2) sc_tops_of.nd rfl (.inl rfl)) (pgs_cons (pg_name (i := 3) sc_tops_of.nd rfl (.inl rfl)) pgs_nil))))
  (pss_one (ps_ret (pe_lc (own := [("column", 4), ("top", 5)]) (g := (gTup K 2 (gCons (gName 4) (gCons (gName 5) gNil)))) rfl sc_tops_of.nd (pi_list (pv 2)) (blkOk_by (own := [("column", 4), ("top", 5)]) (N := nm_tops_of) (sc := defScope s_tops_of) (by decide +kernel)) (fun _ _ _ _ _ => (pg_tup rfl (pgs_cons (pg_name (i := 4) sc_tops_of.nd rfl (.inl rfl)) (pgs_cons (pg_name (i := 5) sc_tops_of.nd rfl (.inl rfl)) pgs_nil)))) (fun _ _ _ _ _ => pts_nil) (fun _ _ _ _ _ => (pv 5))))))), ?_⟩
    have l1 := st.len
    have l2 := cd.len
    refine ⟨.ref a, rfl, .ref b, rfl, a, b, cs, hs, rfl, hA, hB, st, cd, fun H1 s1 => ?_⟩
    refine ⟨.ref a, rfl, .ref b, rfl, a, b, false, cs, hs, rfl, s1.seq hA, s1.seq hB, (fun e => by rw [e] at l1; simp at l1), by omega, by omega, fun H2 t p c l s2 nt np nc ht hp hP hc => ?_⟩
    refine ⟨t, [.ref p, .ref c], rfl, SqT.of ht, rfl, .ref p, [.ref c], rfl, .ref c, [], rfl, rfl, ?_⟩
    refine ⟨.ref p, rfl, p, rfl, ⟨_, SqL.of hp⟩, fun D nD => ?_⟩
    have nDp : p ≠ D := ne_of_none hp nD
    refine lc_list (K := K) (a := p) (xs := l) (fun i H' => Same H2 H' ∧ H' D = some (.lst (((tops cs hs).take i).map V.int))) ⟨same_new _ nD, upd_same⟩ (fun i H' _ h => SqL.of (h.1 _ _ hp)) (fun i x H' e h => ?_) (fun H' h => ?_)
    · obtain ⟨sm, eD⟩ := h
      have il : i < (play false cs hs).1.length := by rw [← hP.1]; exact get_lt e
      obtain ⟨z, rfl, hz⟩ := hP.2 i x _ e (List.getElem?_eq_getElem il)
      refine ⟨z, [_, _], rfl, SqT.of (sm _ _ hz), rfl, _, [_], rfl, _, [], rfl, rfl, rfl, ?_⟩
      refine ⟨_, rfl, _, eD, ?_, same_set sm nD, ?_⟩
      · rw [List.length_map, List.length_take, tops_len]
        exact small_of (Nat.le_trans (Nat.min_le_right _ _) l2) (by decide)
      · rw [upd_same]
        refine congrArg (fun z => some (HO.lst z)) (take_map_succ V.int ?_)
        unfold tops
        rw [List.getElem?_map, List.getElem?_eq_getElem il]
        rfl
    · obtain ⟨sm, eD⟩ := h
      rw [hP.1, play_len, ← tops_len cs hs, List.take_length] at eD
      exact q H' D (s1.trans (s2.trans sm)) (s1.free (s2.free nD)) eD
end

section
variable {P : Program} {w : World} {K : PySem.W.Frag} {mg : Str → Option Value} {base : Heap}
def spEnd (K : PySem.W.Frag) : Sp := fun vs H Q _ => ∃ (a b : Addr) (cs hs : List Int), vs = [.ref a, .ref b] ∧ SqL K H a (cs.map V.int) ∧ SqL K H b (hs.map V.int) ∧ IsStart cs ∧ IsCards hs ∧
  ∀ H' p, Same H H' → H p = none → H' p = some (.lst ((ends cs hs).map V.int)) → Q (.ref p) H'
theorem ok_end_of (T : Txt K mg) : FnOk P w K mg base CX0 6 T.a_end_of T.d_end_of ["start", "heights"] (spEnd K) := by
  refine T.F_end_of.ok sc_end_of (fun vs H Q E h => ?_) (fun cdv A outer s H vs Q E hr h => ?_)
  · obtain ⟨a, b, cs, hs, rfl, _⟩ := h; rfl
  · obtain ⟨a, b, cs, hs, rfl, hA, hB, st, cd, q⟩ := h
    refine ⟨_, (pss_cons (ps_expr (pe_call (ok_check_start_and_cards T) hr (by rfl) T.g_check_start_and_cards T.F_check_start_and_cards.kp T.b_check_start_and_cards .nil pass0 (pa_cons (pv 0) (pa_cons (pv 1) pa_nil))))
  (pss_cons (ps_asg (pe_call (ok_lay_cards T) (hr.mono (by decide)) (by rfl) T.g_lay_cards T.F_lay_cards.kp T.b_lay_cards .nil pass0 (pa_cons (pv 0) (pa_cons (pv 1) (pa_cons pe_bl pa_nil)))) (pg_tup rfl (pgs_cons (pg_name (i := 2) sc_end_of.nd rfl (.inl rfl)) (pgs_cons (pg_name (i := 3) sc_end_of.nd rfl (.inl rfl)) pgs_nil))))
  (pss_one (ps_ret (pv 3))))), ?_⟩
    have l1 := st.len
    have l2 := cd.len
    refine ⟨.ref a, rfl, .ref b, rfl, a, b, cs, hs, rfl, hA, hB, st, cd, fun H1 s1 => ?_⟩
    refine ⟨.ref a, rfl, .ref b, rfl, a, b, false, cs, hs, rfl, s1.seq hA, s1.seq hB, (fun e => by rw [e] at l1; simp at l1), by omega, by omega, fun H2 t p c l s2 nt np nc ht hp hP hc => ?_⟩
    refine ⟨t, [.ref p, .ref c], rfl, SqT.of ht, rfl, .ref p, [.ref c], rfl, .ref c, [], rfl, rfl, ?_⟩
    exact ⟨.ref c, rfl, q H2 c (s1.trans s2) (s1.free nc) hc⟩
end

section
variable {P : Program} {w : World} {K : PySem.W.Frag} {mg : Str → Option Value} {base : Heap}
def spCI : Sp := fun vs H Q _ => ∃ i n : Int, vs = [.int i, .int n] ∧ 0 ≤ i ∧ i < n ∧ Q .non H
theorem ok_check_index (T : Txt K mg) : FnOk P w K mg base CX0 2 T.a_check_index T.d_check_index ["index", "many"] spCI := by
  refine T.F_check_index.ok sc_check_index (fun vs H Q E h => ?_) (fun cdv A outer s H vs Q E hr h => ?_)
  · obtain ⟨i, n, rfl, _⟩ := h; rfl
  · obtain ⟨i, n, rfl, h0, h1, q⟩ := h
    refine ⟨_, (pss_one (ps_if (pt_not (pt_val (pe_call (ok_is_integer_within T) hr (by rfl) T.g_is_integer_within T.F_is_integer_within.kp T.b_is_integer_within .nil pass0 (pa_cons (pv 0) (pa_cons pe_int (pa_cons (pe_op op_sub (pv 1) pe_int) pa_nil))))))
  (pss_one ps_never)
  pss_nil)), ?_⟩
    refine ⟨.int i, rfl, .int n, rfl, n, 1, rfl, rfl, i, 0, _, rfl, ?_⟩
    rw [decide_eq_true (show (0 : Int) ≤ i ∧ i ≤ n - 1 by omega)]
    exact ⟨true, rfl, q⟩
def spOH : Sp := fun vs H Q _ => ∃ h : Int, vs = [.int h] ∧ Q (.bl (decide (1 ≤ h ∧ h ≤ big))) H
theorem ok_is_one_height (T : Txt K mg) : FnOk P w K mg base CX0 2 T.a_is_one_height T.d_is_one_height ["value"] spOH := by
  refine T.F_is_one_height.ok sc_is_one_height (fun vs H Q E h => ?_) (fun cdv A outer s H vs Q E hr h => ?_)
  · obtain ⟨i, rfl, _⟩ := h; rfl
  · obtain ⟨i, rfl, q⟩ := h
    refine ⟨_, (pss_one (ps_ret (pe_call (ok_is_integer_within T) hr (by rfl) T.g_is_integer_within T.F_is_integer_within.kp T.b_is_integer_within .nil pass0 (pa_cons (pv 0) (pa_cons pe_int (pa_cons (pe_glob (v := .int 1000000000000000000000000000000) (by rfl) T.c_MOST_HEIGHT ⟨_, rfl⟩) pa_nil)))))), ?_⟩
    exact ⟨.int i, rfl, i, 1, big, rfl, q⟩
def spCH : Sp := fun vs H Q _ => ∃ h : Int, vs = [.int h] ∧ 1 ≤ h ∧ h ≤ big ∧ Q .non H
theorem ok_check_height (T : Txt K mg) : FnOk P w K mg base CX0 3 T.a_check_height T.d_check_height ["height"] spCH := by
  refine T.F_check_height.ok sc_check_height (fun vs H Q E h => ?_) (fun cdv A outer s H vs Q E hr h => ?_)
  · obtain ⟨i, rfl, _⟩ := h; rfl
  · obtain ⟨i, rfl, h0, h1, q⟩ := h
    refine ⟨_, (pss_one (ps_if (pt_not (pt_val (pe_call (ok_is_one_height T) hr (by rfl) T.g_is_one_height T.F_is_one_height.kp T.b_is_one_height .nil pass0 (pa_cons (pv 0) pa_nil))))
  (pss_one ps_never)
  pss_nil)), ?_⟩
    refine ⟨.int i, rfl, i, rfl, ?_⟩
    rw [decide_eq_true (show (1 : Int) ≤ i ∧ i ≤ big from ⟨h0, h1⟩)]
    exact ⟨true, rfl, iteF q⟩
def spWith (K : PySem.W.Frag) : Sp := fun vs H Q _ => ∃ (a : Addr) (i : Nat) (x : Int) (ns : List Int), vs = [.ref a, .int i, .int x] ∧ SqL K H a (ns.map V.int) ∧ i ≤ ns.length ∧ ns.length ≤ 1000 ∧
  ∀ H' p, Same H H' → H p = none → H' p = some (.lst ((insAt ns i x).map V.int)) → Q (.ref p) H'
theorem ok_with_item (T : Txt K mg) : FnOk P w K mg base CX0 1 T.a_with_item T.d_with_item ["items", "index", "item"] (spWith K) := by
  refine T.F_with_item.ok sc_with_item (fun vs H Q E h => ?_) (fun cdv A outer s H vs Q E hr h => ?_)
  · obtain ⟨a, i, x, ns, rfl, _⟩ := h; rfl
  · obtain ⟨a, i, x, ns, rfl, hS, hi, hl, q⟩ := h
    refine ⟨_, (pss_one (ps_ret (pe_op op_cat (pe_op op_cat (pe_slice sl_list (pv 0) po_none (po_some (pv 1))) (pe_lst (pa_cons (pv 2) pa_nil))) (pe_slice sl_list (pv 0) (po_some (pv 1)) po_none)))), ?_⟩
    refine ⟨.ref a, rfl, .int i, rfl, i, rfl, a, _, rfl, hS, fun p1 n1 => ?_⟩
    rw [cut_to hi]
    have s1 := same_new (H := H) (p := p1) (.lst ((ns.take i).map V.int)) n1
    refine ⟨.int x, rfl, (by show 1 ≤ sizeLine; decide), fun p2 n2 => ?_⟩
    have s2 := same_new (p := p2) (.lst [.int x]) n2
    refine ⟨p1, p2, _, _, rfl, rfl, s2 _ _ upd_same, upd_same, ?_, fun p3 n3 => ?_⟩
    · rw [List.length_map, List.length_take]
      exact small_le (m := 2000) (by simp only [List.length_cons, List.length_nil]; omega) (by decide)
    have s3 := same_new (p := p3) (.lst ((ns.take i).map V.int ++ [.int x])) n3
    refine ⟨.ref a, rfl, .int i, rfl, i, rfl, a, _, rfl, (s1.trans (s2.trans s3)).seq hS, fun p4 n4 => ?_⟩
    rw [cut_from hi] at *
    have s4 := same_new (p := p4) (.lst ((ns.drop i).map V.int)) n4
    refine ⟨p3, p4, _, _, rfl, rfl, s4 _ _ upd_same, upd_same, ?_, fun p5 n5 => ?_⟩
    · rw [List.length_append, List.length_map, List.length_take, List.length_map, List.length_drop]
      exact small_le (m := 3000) (by simp only [List.length_cons, List.length_nil]; omega) (by decide)
    have S4 := ((s1.trans s2).trans s3).trans s4
    refine q _ p5 (same_lay S4 n5) (S4.free n5) ?_
    rw [upd_same]
    unfold insAt
    rw [List.map_append, List.map_append]
    rfl
def spWithout (K : PySem.W.Frag) : Sp := fun vs H Q _ => ∃ (a : Addr) (i : Nat) (ns : List Int), vs = [.ref a, .int i] ∧ SqL K H a (ns.map V.int) ∧ i < ns.length ∧ ns.length ≤ 1000 ∧
  ∀ H' p, Same H H' → H p = none → H' p = some (.lst ((delAt ns i).map V.int)) → Q (.ref p) H'
theorem ok_without_item (T : Txt K mg) : FnOk P w K mg base CX0 1 T.a_without_item T.d_without_item ["items", "index"] (spWithout K) := by
  refine T.F_without_item.ok sc_without_item (fun vs H Q E h => ?_) (fun cdv A outer s H vs Q E hr h => ?_)
  · obtain ⟨a, i, ns, rfl, _⟩ := h; rfl
  · obtain ⟨a, i, ns, rfl, hS, hi, hl, q⟩ := h
    refine ⟨_, (pss_one (ps_ret (pe_op op_cat (pe_slice sl_list (pv 0) po_none (po_some (pv 1))) (pe_slice sl_list (pv 0) (po_some (pe_op op_add (pv 1) pe_int)) po_none)))), ?_⟩
    refine ⟨.ref a, rfl, .int i, rfl, i, rfl, a, _, rfl, hS, fun p1 n1 => ?_⟩
    rw [cut_to (Nat.le_of_lt hi)]
    have s1 := same_new (H := H) (p := p1) (.lst ((ns.take i).map V.int)) n1
    refine ⟨.ref a, rfl, .int i, rfl, i, 1, rfl, rfl, (i : Int) + 1, rfl, a, _, rfl, s1.seq hS, fun p2 n2 => ?_⟩
    have ec : cutV (ns.map V.int) (some ((i : Int) + 1)) none = (ns.drop (i + 1)).map V.int := cut_from (k := i + 1) hi
    rw [ec]
    have s2 := same_new (p := p2) (.lst ((ns.drop (i + 1)).map V.int)) n2
    refine ⟨p1, p2, _, _, rfl, rfl, s2 _ _ upd_same, upd_same, ?_, fun p3 n3 => ?_⟩
    · rw [List.length_map, List.length_take, List.length_map, List.length_drop]
      exact small_le (m := 2000) (by omega) (by decide)
    have S2 := s1.trans s2
    refine q _ p3 (same_lay S2 n3) (S2.free n3) ?_
    rw [upd_same]
    unfold delAt
    rw [List.map_append]
def spMvI (K : PySem.W.Frag) : Sp := fun vs H Q _ => ∃ (a : Addr) (i j : Nat) (x : Int) (ns : List Int), vs = [.ref a, .int i, .int j] ∧ SqL K H a (ns.map V.int) ∧ ns[i]? = some x ∧ j < ns.length ∧ ns.length ≤ 1000 ∧
  ∀ H' p, Same H H' → H p = none → H' p = some (.lst ((insAt (delAt ns i) j x).map V.int)) → Q (.ref p) H'
theorem ok_with_moved_item (T : Txt K mg) : FnOk P w K mg base CX0 2 T.a_with_moved_item T.d_with_moved_item ["items", "index", "place"] (spMvI K) := by
  refine T.F_with_moved_item.ok sc_with_moved_item (fun vs H Q E h => ?_) (fun cdv A outer s H vs Q E hr h => ?_)
  · obtain ⟨a, i, j, x, ns, rfl, _⟩ := h; rfl
  · obtain ⟨a, i, j, x, ns, rfl, hS, hx, hj, hl, q⟩ := h
    have hi := get_lt hx
    have dl1 := delAt_len hi
    refine ⟨_, (pss_one (ps_ret (pe_call (ok_with_item T) hr (by rfl) T.g_with_item T.F_with_item.kp T.b_with_item .nil pass0 (pa_cons (pe_call (ok_without_item T) hr (by rfl) T.g_without_item T.F_without_item.kp T.b_without_item .nil pass0 (pa_cons (pv 0) (pa_cons (pv 1) pa_nil))) (pa_cons (pv 2) (pa_cons (pe_ix ix_list (pv 0) (pv 1) (fun _ _ => rfl)) pa_nil)))))), ?_⟩
    refine ⟨.ref a, rfl, .int i, rfl, a, i, ns, rfl, hS, hi, hl, fun H2 p2 s2 np2 ep2 => ?_⟩
    refine ⟨.int j, rfl, .ref a, rfl, .int i, rfl, a, _, _, .int x, rfl, rfl, s2.seq hS, atI_nat (by rw [List.getElem?_map, hx]; rfl), ?_⟩
    exact ⟨p2, j, x, _, rfl, SqL.of ep2, by omega, by omega, fun H3 p3 s3 np3 ep3 => q H3 p3 (s2.trans s3) (s2.free np3) ep3⟩
def spOtI (K : PySem.W.Frag) : Sp := fun vs H Q _ => ∃ (a : Addr) (i : Nat) (x : Int) (ns : List Int), vs = [.ref a, .int i, .int x] ∧ SqL K H a (ns.map V.int) ∧ i < ns.length ∧ ns.length ≤ 1000 ∧
  ∀ H' p, Same H H' → H p = none → H' p = some (.lst ((insAt (delAt ns i) i x).map V.int)) → Q (.ref p) H'
theorem ok_with_other_item (T : Txt K mg) : FnOk P w K mg base CX0 2 T.a_with_other_item T.d_with_other_item ["items", "index", "item"] (spOtI K) := by
  refine T.F_with_other_item.ok sc_with_other_item (fun vs H Q E h => ?_) (fun cdv A outer s H vs Q E hr h => ?_)
  · obtain ⟨a, i, x, ns, rfl, _⟩ := h; rfl
  · obtain ⟨a, i, x, ns, rfl, hS, hi, hl, q⟩ := h
    have dl1 := delAt_len hi
    refine ⟨_, (pss_one (ps_ret (pe_call (ok_with_item T) hr (by rfl) T.g_with_item T.F_with_item.kp T.b_with_item .nil pass0 (pa_cons (pe_call (ok_without_item T) hr (by rfl) T.g_without_item T.F_without_item.kp T.b_without_item .nil pass0 (pa_cons (pv 0) (pa_cons (pv 1) pa_nil))) (pa_cons (pv 1) (pa_cons (pv 2) pa_nil)))))), ?_⟩
    refine ⟨.ref a, rfl, .int i, rfl, a, i, ns, rfl, hS, hi, hl, fun H2 p2 s2 np2 ep2 => ?_⟩
    exact ⟨.int i, rfl, .int x, rfl, p2, i, x, _, rfl, SqL.of ep2, by omega, by omega, fun H3 p3 s3 np3 ep3 => q H3 p3 (s2.trans s3) (s2.free np3) ep3⟩
def spGrow (K : PySem.W.Frag) : Sp := fun vs H Q _ => ∃ (a b : Addr) (xs ys : List Int), vs = [.ref a, .ref b] ∧ SqL K H a (xs.map V.int) ∧ SqL K H b (ys.map V.int) ∧ xs.length = ys.length ∧ xs.length ≤ 1000 ∧
  ∀ H' p, Same H H' → H p = none → H' p = some (.lst ((grow xs ys).map V.int)) → Q (.ref p) H'
theorem ok_growths (T : Txt K mg) : FnOk P w K mg base CX0 1 T.a_growths T.d_growths ["before", "after"] (spGrow K) := by
  refine T.F_growths.ok sc_growths (fun vs H Q E h => ?_) (fun cdv A outer s H vs Q E hr h => ?_)
  · obtain ⟨a, b, xs, ys, rfl, _⟩ := h; rfl
  · obtain ⟨a, b, xs, ys, rfl, hA, hB, he, hl, q⟩ := h
    refine ⟨_, (pss_one (ps_ret (pe_lc (own := [("old", 2), ("new", 3)]) (g := (gTup K 2 (gCons (gName 2) (gCons (gName 3) gNil)))) rfl sc_growths.nd (pi_zip (by rfl) T.z_zip (pa_cons (pv 0) (pa_cons (pv 1) pa_nil))) (blkOk_by (own := [("old", 2), ("new", 3)]) (N := nm_growths) (sc := defScope s_growths) (by decide +kernel)) (fun _ _ _ _ _ => (pg_tup rfl (pgs_cons (pg_name (i := 2) sc_growths.nd rfl (.inl rfl)) (pgs_cons (pg_name (i := 3) sc_growths.nd rfl (.inl rfl)) pgs_nil)))) (fun _ _ _ _ _ => pts_nil) (fun _ _ _ _ _ => (pe_op op_sub (pv 3) (pv 2)))))), ?_⟩
    refine ⟨.ref a, rfl, .ref b, rfl, a, b, _, _, rfl, hA, hB, fun D nD => ?_⟩
    refine lc_zip (K := K) (a := a) (b := b) (xs := xs.map V.int) (ys := ys.map V.int) (by rw [List.length_map, List.length_map, he]) (fun i H' => Same H H' ∧ H' D = some (.lst (((grow xs ys).take i).map V.int)))
      ⟨same_new _ nD, upd_same⟩ (fun i H' _ h => ⟨h.1.seq hA, h.1.seq hB⟩) (fun i x y H' T ex ey h nT => ?_) (fun H' h => ?_)
    · obtain ⟨x1, e1, rfl⟩ := get_map ex
      obtain ⟨y1, e2, rfl⟩ := get_map ey
      have sT := same_new (H := H') (p := T) (.tup [.int x1, .int y1]) nT
      refine ⟨T, [_, _], rfl, SqT.of upd_same, rfl, _, [_], rfl, _, [], rfl, rfl, rfl, ?_⟩
      refine ⟨_, rfl, _, rfl, y1, x1, rfl, rfl, _, sT _ _ h.2, ?_, same_set (h.1.trans sT) nD, ?_⟩
      · rw [List.length_map, List.length_take, grow_len he]
        exact small_of (m := 1000) (by omega) (by decide)
      · rw [upd_same]
        exact congrArg (fun z => some (HO.lst z)) (take_map_succ V.int (grow_take e1 e2))
    · have eD := h.2
      rw [List.length_map, ← grow_len he, List.take_length] at eD
      exact q H' D h.1 nD eD
end

section
variable {P : Program} {w : World} {K : PySem.W.Frag} {mg : Str → Option Value} {base : Heap}
theorem IsCards.ins {hs : List Int} {i : Nat} {x : Int} (h : IsCards hs) (hi : i ≤ hs.length) (hl : hs.length ≤ 199) (h0 : 1 ≤ x) (h1 : x ≤ big) : IsCards (insAt hs i x) :=
  ⟨by rw [insAt_len hi]; omega, fun n hn => (mem_insAt hn).elim (fun e => by rw [e]; exact ⟨h0, h1⟩) (h.all n)⟩
theorem IsCards.del {hs : List Int} {i : Nat} (h : IsCards hs) (hi : i < hs.length) : IsCards (delAt hs i) :=
  ⟨by rw [delAt_len hi]; have := h.len; omega, fun n hn => h.all n (mem_delAt hn)⟩
def spEI (K : PySem.W.Frag) : Sp := fun vs H Q _ => ∃ (a b : Addr) (i : Nat) (x : Int) (cs hs : List Int), vs = [.ref a, .ref b, .int i, .int x] ∧ SqL K H a (cs.map V.int) ∧ SqL K H b (hs.map V.int) ∧ IsStart cs ∧ IsCards hs ∧ hs.length ≤ 199 ∧ i ≤ hs.length ∧ 1 ≤ x ∧ x ≤ big ∧
  ∀ H' p, Same H H' → H p = none → H' p = some (.lst ((effIns cs hs i x).map V.int)) → Q (.ref p) H'
theorem ok_effect_of_insert (T : Txt K mg) : FnOk P w K mg base CX0 7 T.a_effect_of_insert T.d_effect_of_insert ["start", "heights", "index", "height"] (spEI K) := by
  refine T.F_effect_of_insert.ok sc_effect_of_insert (fun vs H Q E h => ?_) (fun cdv A outer s H vs Q E hr h => ?_)
  · obtain ⟨a, b, i, x, cs, hs, rfl, _⟩ := h; rfl
  · obtain ⟨a, b, i, x, cs, hs, rfl, hA, hB, st, cd, hl, hi, x0, x1, q⟩ := h
    refine ⟨_, (pss_cons (ps_expr (pe_call (ok_check_start_and_cards T) (hr.mono (by decide)) (by rfl) T.g_check_start_and_cards T.F_check_start_and_cards.kp T.b_check_start_and_cards .nil pass0 (pa_cons (pv 0) (pa_cons (pv 1) pa_nil))))
  (pss_cons (ps_if (pt_cmpR op_ge (pe_callB call_len_seq (by rfl) T.z_len (by decide +kernel) (pa_cons (pv 1) pa_nil)) (pe_glob (v := .int 200) (by rfl) T.c_MOST_CARDS ⟨_, rfl⟩) (nomark _))
  (pss_one ps_never)
  pss_nil)
  (pss_cons (ps_expr (pe_call (ok_check_index T) (hr.mono (by decide)) (by rfl) T.g_check_index T.F_check_index.kp T.b_check_index .nil pass0 (pa_cons (pv 2) (pa_cons (pe_op op_add (pe_callB call_len_seq (by rfl) T.z_len (by decide +kernel) (pa_cons (pv 1) pa_nil)) pe_int) pa_nil))))
  (pss_cons (ps_expr (pe_call (ok_check_height T) (hr.mono (by decide)) (by rfl) T.g_check_height T.F_check_height.kp T.b_check_height .nil pass0 (pa_cons (pv 3) pa_nil)))
  (pss_cons (ps_set (i := 4) sc_effect_of_insert.nd rfl (.inl rfl) (pe_call (ok_tops_of T) hr (by rfl) T.g_tops_of T.F_tops_of.kp T.b_tops_of .nil pass0 (pa_cons (pv 0) (pa_cons (pe_call (ok_with_item T) (hr.mono (by decide)) (by rfl) T.g_with_item T.F_with_item.kp T.b_with_item .nil pass0 (pa_cons (pv 1) (pa_cons (pv 2) (pa_cons (pv 3) pa_nil)))) pa_nil))))
  (pss_one (ps_ret (pe_call (ok_growths T) (hr.mono (by decide)) (by rfl) T.g_growths T.F_growths.kp T.b_growths .nil pass0 (pa_cons (pe_call (ok_tops_of T) hr (by rfl) T.g_tops_of T.F_tops_of.kp T.b_tops_of .nil pass0 (pa_cons (pv 0) (pa_cons (pv 1) pa_nil))) (pa_cons (pe_call (ok_without_item T) (hr.mono (by decide)) (by rfl) T.g_without_item T.F_without_item.kp T.b_without_item .nil pass0 (pa_cons (pv 4) (pa_cons (pv 2) pa_nil))) pa_nil)))))))))), ?_⟩
    refine ⟨.ref a, rfl, .ref b, rfl, a, b, cs, hs, rfl, hA, hB, st, cd, fun H1 s1 => ?_⟩
    refine ⟨.ref b, rfl, b, _, rfl, .inl (s1.seq hB), _, 200, rfl, rfl, _, rfl, ?_⟩
    rw [List.length_map]
    refine ite_f (by simp; omega) ?_
    refine ⟨.int i, rfl, .ref b, rfl, b, _, rfl, .inl (s1.seq hB), _, 1, rfl, rfl, i, _, rfl, by omega, by rw [List.length_map]; omega, ?_⟩
    refine ⟨.int x, rfl, x, rfl, x0, x1, ?_⟩
    -- after
    refine ⟨.ref a, rfl, .ref b, rfl, .int i, rfl, .int x, rfl, b, i, x, hs, rfl, s1.seq hB, hi, by omega, fun H2 p2 s2 np2 ep2 => ?_⟩
    have S2 := s1.trans s2
    refine ⟨a, p2, cs, insAt hs i x, rfl, S2.seq hA, SqL.of ep2, st, cd.ins hi hl x0 x1, fun H3 p3 s3 np3 ep3 => ?_⟩
    have S3 := S2.trans s3
    refine ⟨.ref a, rfl, .ref b, rfl, a, b, cs, hs, rfl, S3.seq hA, S3.seq hB, st, cd, fun H4 p4 s4 np4 ep4 => ?_⟩
    have lt : (tops cs (insAt hs i x)).length = hs.length + 1 := by rw [tops_len, insAt_len hi]
    refine ⟨.ref p3, rfl, .int i, rfl, p3, i, _, rfl, SqL.of (s4 _ _ ep3), by omega, by omega, fun H5 p5 s5 np5 ep5 => ?_⟩
    refine ⟨p4, p5, _, _, rfl, SqL.of (s5 _ _ ep4), SqL.of ep5, by rw [tops_len, delAt_len (by omega), lt]; omega, by rw [tops_len]; omega, fun H6 p6 s6 np6 ep6 => ?_⟩
    have S5 := (S3.trans s4).trans s5
    exact q H6 p6 (S5.trans s6) (S5.free np6) ep6
def spER (K : PySem.W.Frag) : Sp := fun vs H Q _ => ∃ (a b : Addr) (i : Nat) (cs hs : List Int), vs = [.ref a, .ref b, .int i] ∧ SqL K H a (cs.map V.int) ∧ SqL K H b (hs.map V.int) ∧ IsStart cs ∧ IsCards hs ∧ i < hs.length ∧
  ∀ H' p, Same H H' → H p = none → H' p = some (.lst ((effRem cs hs i).map V.int)) → Q (.ref p) H'
theorem ok_effect_of_remove (T : Txt K mg) : FnOk P w K mg base CX0 7 T.a_effect_of_remove T.d_effect_of_remove ["start", "heights", "index"] (spER K) := by
  refine T.F_effect_of_remove.ok sc_effect_of_remove (fun vs H Q E h => ?_) (fun cdv A outer s H vs Q E hr h => ?_)
  · obtain ⟨a, b, i, cs, hs, rfl, _⟩ := h; rfl
  · obtain ⟨a, b, i, cs, hs, rfl, hA, hB, st, cd, hi, q⟩ := h
    have ld := cd.len
    refine ⟨_, (pss_cons (ps_expr (pe_call (ok_check_start_and_cards T) (hr.mono (by decide)) (by rfl) T.g_check_start_and_cards T.F_check_start_and_cards.kp T.b_check_start_and_cards .nil pass0 (pa_cons (pv 0) (pa_cons (pv 1) pa_nil))))
  (pss_cons (ps_expr (pe_call (ok_check_index T) (hr.mono (by decide)) (by rfl) T.g_check_index T.F_check_index.kp T.b_check_index .nil pass0 (pa_cons (pv 2) (pa_cons (pe_callB call_len_seq (by rfl) T.z_len (by decide +kernel) (pa_cons (pv 1) pa_nil)) pa_nil))))
  (pss_cons (ps_set (i := 3) sc_effect_of_remove.nd rfl (.inl rfl) (pe_call (ok_without_item T) (hr.mono (by decide)) (by rfl) T.g_without_item T.F_without_item.kp T.b_without_item .nil pass0 (pa_cons (pe_call (ok_tops_of T) hr (by rfl) T.g_tops_of T.F_tops_of.kp T.b_tops_of .nil pass0 (pa_cons (pv 0) (pa_cons (pv 1) pa_nil))) (pa_cons (pv 2) pa_nil))))
  (pss_one (ps_ret (pe_call (ok_growths T) (hr.mono (by decide)) (by rfl) T.g_growths T.F_growths.kp T.b_growths .nil pass0 (pa_cons (pv 3) (pa_cons (pe_call (ok_tops_of T) hr (by rfl) T.g_tops_of T.F_tops_of.kp T.b_tops_of .nil pass0 (pa_cons (pv 0) (pa_cons (pe_call (ok_without_item T) (hr.mono (by decide)) (by rfl) T.g_without_item T.F_without_item.kp T.b_without_item .nil pass0 (pa_cons (pv 1) (pa_cons (pv 2) pa_nil))) pa_nil))) pa_nil)))))))), ?_⟩
    refine ⟨.ref a, rfl, .ref b, rfl, a, b, cs, hs, rfl, hA, hB, st, cd, fun H1 s1 => ?_⟩
    refine ⟨.int i, rfl, .ref b, rfl, b, _, rfl, .inl (s1.seq hB), i, _, rfl, by omega, by rw [List.length_map]; omega, ?_⟩
    refine ⟨.ref a, rfl, .ref b, rfl, a, b, cs, hs, rfl, s1.seq hA, s1.seq hB, st, cd, fun H2 p2 s2 np2 ep2 => ?_⟩
    have S2 := s1.trans s2
    refine ⟨.int i, rfl, p2, i, _, rfl, SqL.of ep2, by rw [tops_len]; omega, by rw [tops_len]; omega, fun H3 p3 s3 np3 ep3 => ?_⟩
    have S3 := S2.trans s3
    refine ⟨.ref p3, rfl, .ref a, rfl, .ref b, rfl, .int i, rfl, b, i, hs, rfl, S3.seq hB, hi, by omega, fun H4 p4 s4 np4 ep4 => ?_⟩
    have S4 := S3.trans s4
    refine ⟨a, p4, cs, delAt hs i, rfl, S4.seq hA, SqL.of ep4, st, cd.del hi, fun H5 p5 s5 np5 ep5 => ?_⟩
    refine ⟨p3, p5, _, _, rfl, SqL.of ((s4.trans s5) _ _ ep3), SqL.of ep5, by rw [delAt_len (by rw [tops_len]; omega), tops_len, tops_len, delAt_len hi], by rw [delAt_len (by rw [tops_len]; omega), tops_len]; omega, fun H6 p6 s6 np6 ep6 => ?_⟩
    have S5 := S4.trans s5
    exact q H6 p6 (S5.trans s6) (S5.free np6) ep6
def spEM (K : PySem.W.Frag) : Sp := fun vs H Q _ => ∃ (a b : Addr) (i j : Nat) (x : Int) (cs hs : List Int), vs = [.ref a, .ref b, .int i, .int j] ∧ SqL K H a (cs.map V.int) ∧ SqL K H b (hs.map V.int) ∧ IsStart cs ∧ IsCards hs ∧ hs[i]? = some x ∧ j < hs.length ∧
  ∀ H' p, Same H H' → H p = none → H' p = some (.lst ((effMov cs hs i j x).map V.int)) → Q (.ref p) H'
theorem ok_effect_of_move (T : Txt K mg) : FnOk P w K mg base CX0 7 T.a_effect_of_move T.d_effect_of_move ["start", "heights", "index", "place"] (spEM K) := by
  refine T.F_effect_of_move.ok sc_effect_of_move (fun vs H Q E h => ?_) (fun cdv A outer s H vs Q E hr h => ?_)
  · obtain ⟨a, b, i, j, x, cs, hs, rfl, _⟩ := h; rfl
  · obtain ⟨a, b, i, j, x, cs, hs, rfl, hA, hB, st, cd, hx, hj, q⟩ := h
    have ld := cd.len
    have hi := get_lt hx
    have xb := cd.all x (List.mem_of_getElem? hx)
    have dl1 := delAt_len hi
    have cdd := cd.del hi
    have cdi : IsCards (insAt (delAt hs i) j x) := cdd.ins (by omega) (by omega) xb.1 xb.2
    have lm : (insAt (delAt hs i) j x).length = hs.length := by rw [insAt_len (by omega)]; omega
    refine ⟨_, (pss_cons (ps_expr (pe_call (ok_check_start_and_cards T) (hr.mono (by decide)) (by rfl) T.g_check_start_and_cards T.F_check_start_and_cards.kp T.b_check_start_and_cards .nil pass0 (pa_cons (pv 0) (pa_cons (pv 1) pa_nil))))
  (pss_cons (ps_expr (pe_call (ok_check_index T) (hr.mono (by decide)) (by rfl) T.g_check_index T.F_check_index.kp T.b_check_index .nil pass0 (pa_cons (pv 2) (pa_cons (pe_callB call_len_seq (by rfl) T.z_len (by decide +kernel) (pa_cons (pv 1) pa_nil)) pa_nil))))
  (pss_cons (ps_expr (pe_call (ok_check_index T) (hr.mono (by decide)) (by rfl) T.g_check_index T.F_check_index.kp T.b_check_index .nil pass0 (pa_cons (pv 3) (pa_cons (pe_callB call_len_seq (by rfl) T.z_len (by decide +kernel) (pa_cons (pv 1) pa_nil)) pa_nil))))
  (pss_cons (ps_set (i := 4) sc_effect_of_move.nd rfl (.inl rfl) (pe_call (ok_without_item T) (hr.mono (by decide)) (by rfl) T.g_without_item T.F_without_item.kp T.b_without_item .nil pass0 (pa_cons (pe_call (ok_tops_of T) hr (by rfl) T.g_tops_of T.F_tops_of.kp T.b_tops_of .nil pass0 (pa_cons (pv 0) (pa_cons (pv 1) pa_nil))) (pa_cons (pv 2) pa_nil))))
  (pss_cons (ps_set (i := 5) sc_effect_of_move.nd rfl (.inl rfl) (pe_call (ok_tops_of T) hr (by rfl) T.g_tops_of T.F_tops_of.kp T.b_tops_of .nil pass0 (pa_cons (pv 0) (pa_cons (pe_call (ok_with_moved_item T) (hr.mono (by decide)) (by rfl) T.g_with_moved_item T.F_with_moved_item.kp T.b_with_moved_item .nil pass0 (pa_cons (pv 1) (pa_cons (pv 2) (pa_cons (pv 3) pa_nil)))) pa_nil))))
  (pss_one (ps_ret (pe_call (ok_growths T) (hr.mono (by decide)) (by rfl) T.g_growths T.F_growths.kp T.b_growths .nil pass0 (pa_cons (pv 4) (pa_cons (pe_call (ok_without_item T) (hr.mono (by decide)) (by rfl) T.g_without_item T.F_without_item.kp T.b_without_item .nil pass0 (pa_cons (pv 5) (pa_cons (pv 3) pa_nil))) pa_nil)))))))))), ?_⟩
    refine ⟨.ref a, rfl, .ref b, rfl, a, b, cs, hs, rfl, hA, hB, st, cd, fun H1 s1 => ?_⟩
    refine ⟨.int i, rfl, .ref b, rfl, b, _, rfl, .inl (s1.seq hB), i, _, rfl, by omega, by rw [List.length_map]; omega, ?_⟩
    refine ⟨.int j, rfl, .ref b, rfl, b, _, rfl, .inl (s1.seq hB), j, _, rfl, by omega, by rw [List.length_map]; omega, ?_⟩
    -- before
    refine ⟨.ref a, rfl, .ref b, rfl, a, b, cs, hs, rfl, s1.seq hA, s1.seq hB, st, cd, fun H4 p4 s4 np4 ep4 => ?_⟩
    have S4 := s1.trans s4
    refine ⟨.int i, rfl, p4, i, _, rfl, SqL.of ep4, by rw [tops_len]; omega, by rw [tops_len]; omega, fun H5 p5 s5 np5 ep5 => ?_⟩
    have S5 := S4.trans s5
    -- after
    refine ⟨.ref a, rfl, .ref b, rfl, .int i, rfl, .int j, rfl, b, i, j, x, hs, rfl, S5.seq hB, hx, hj, by omega, fun H3 p3 s3 np3 ep3 => ?_⟩
    have S3 := S5.trans s3
    refine ⟨a, p3, cs, _, rfl, S3.seq hA, SqL.of ep3, st, cdi, fun H6 p6 s6 np6 ep6 => ?_⟩
    have S6 := S3.trans s6
    refine ⟨.ref p5, rfl, .ref p6, rfl, .int j, rfl, p6, j, _, rfl, SqL.of ep6, by rw [tops_len]; omega, by rw [tops_len]; omega, fun H7 p7 s7 np7 ep7 => ?_⟩
    have S7 := S6.trans s7
    refine ⟨p5, p7, _, _, rfl, SqL.of ((s3.trans (s6.trans s7)) _ _ ep5), SqL.of ep7, by rw [delAt_len (by rw [tops_len]; omega), delAt_len (by rw [tops_len]; omega), tops_len, tops_len, lm], by rw [delAt_len (by rw [tops_len]; omega), tops_len]; omega, fun H8 p8 s8 np8 ep8 => ?_⟩
    exact q H8 p8 (S7.trans s8) (S7.free np8) ep8
def spES (K : PySem.W.Frag) : Sp := fun vs H Q _ => ∃ (a b : Addr) (i : Nat) (x : Int) (cs hs : List Int), vs = [.ref a, .ref b, .int i, .int x] ∧ SqL K H a (cs.map V.int) ∧ SqL K H b (hs.map V.int) ∧ IsStart cs ∧ IsCards hs ∧ i < hs.length ∧ 1 ≤ x ∧ x ≤ big ∧
  ∀ H' p, Same H H' → H p = none → H' p = some (.lst ((effStr cs hs i x).map V.int)) → Q (.ref p) H'
theorem ok_effect_of_stretch (T : Txt K mg) : FnOk P w K mg base CX0 7 T.a_effect_of_stretch T.d_effect_of_stretch ["start", "heights", "index", "height"] (spES K) := by
  refine T.F_effect_of_stretch.ok sc_effect_of_stretch (fun vs H Q E h => ?_) (fun cdv A outer s H vs Q E hr h => ?_)
  · obtain ⟨a, b, i, x, cs, hs, rfl, _⟩ := h; rfl
  · obtain ⟨a, b, i, x, cs, hs, rfl, hA, hB, st, cd, hi, x0, x1, q⟩ := h
    have ld := cd.len
    have dl1 := delAt_len hi
    have cdd := cd.del hi
    have cdi : IsCards (insAt (delAt hs i) i x) := cdd.ins (by omega) (by omega) x0 x1
    have lm : (insAt (delAt hs i) i x).length = hs.length := by rw [insAt_len (by omega)]; omega
    refine ⟨_, (pss_cons (ps_expr (pe_call (ok_check_start_and_cards T) (hr.mono (by decide)) (by rfl) T.g_check_start_and_cards T.F_check_start_and_cards.kp T.b_check_start_and_cards .nil pass0 (pa_cons (pv 0) (pa_cons (pv 1) pa_nil))))
  (pss_cons (ps_expr (pe_call (ok_check_index T) (hr.mono (by decide)) (by rfl) T.g_check_index T.F_check_index.kp T.b_check_index .nil pass0 (pa_cons (pv 2) (pa_cons (pe_callB call_len_seq (by rfl) T.z_len (by decide +kernel) (pa_cons (pv 1) pa_nil)) pa_nil))))
  (pss_cons (ps_expr (pe_call (ok_check_height T) (hr.mono (by decide)) (by rfl) T.g_check_height T.F_check_height.kp T.b_check_height .nil pass0 (pa_cons (pv 3) pa_nil)))
  (pss_one (ps_ret (pe_call (ok_growths T) (hr.mono (by decide)) (by rfl) T.g_growths T.F_growths.kp T.b_growths .nil pass0 (pa_cons (pe_call (ok_tops_of T) hr (by rfl) T.g_tops_of T.F_tops_of.kp T.b_tops_of .nil pass0 (pa_cons (pv 0) (pa_cons (pv 1) pa_nil))) (pa_cons (pe_call (ok_tops_of T) hr (by rfl) T.g_tops_of T.F_tops_of.kp T.b_tops_of .nil pass0 (pa_cons (pv 0) (pa_cons (pe_call (ok_with_other_item T) (hr.mono (by decide)) (by rfl) T.g_with_other_item T.F_with_other_item.kp T.b_with_other_item .nil pass0 (pa_cons (pv 1) (pa_cons (pv 2) (pa_cons (pv 3) pa_nil)))) pa_nil))) pa_nil)))))))), ?_⟩
    refine ⟨.ref a, rfl, .ref b, rfl, a, b, cs, hs, rfl, hA, hB, st, cd, fun H1 s1 => ?_⟩
    refine ⟨.int i, rfl, .ref b, rfl, b, _, rfl, .inl (s1.seq hB), i, _, rfl, by omega, by rw [List.length_map]; omega, ?_⟩
    refine ⟨.int x, rfl, x, rfl, x0, x1, ?_⟩
    refine ⟨.ref a, rfl, .ref b, rfl, a, b, cs, hs, rfl, s1.seq hA, s1.seq hB, st, cd, fun H4 p4 s4 np4 ep4 => ?_⟩
    have S4 := s1.trans s4
    refine ⟨.ref a, rfl, .ref b, rfl, .int i, rfl, .int x, rfl, b, i, x, hs, rfl, S4.seq hB, hi, by omega, fun H3 p3 s3 np3 ep3 => ?_⟩
    have S3 := S4.trans s3
    refine ⟨a, p3, cs, _, rfl, S3.seq hA, SqL.of ep3, st, cdi, fun H5 p5 s5 np5 ep5 => ?_⟩
    have S5 := S3.trans s5
    refine ⟨p4, p5, _, _, rfl, SqL.of ((s3.trans s5) _ _ ep4), SqL.of ep5, by rw [tops_len, tops_len, lm], by rw [tops_len]; omega, fun H6 p6 s6 np6 ep6 => ?_⟩
    exact q H6 p6 (S5.trans s6) (S5.free np6) ep6
def spEX (K : PySem.W.Frag) : Sp := fun vs H Q _ => ∃ (a b : Addr) (i : Nat) (x : Int) (cs hs : List Int), vs = [.ref a, .ref b, .int i] ∧ SqL K H a (cs.map V.int) ∧ SqL K H b (hs.map V.int) ∧ IsStart cs ∧ IsCards hs ∧ hs[i]? = some x ∧ i + 1 < hs.length ∧
  ∀ H' p, Same H H' → H p = none → H' p = some (.lst ((effExc cs hs i x).map V.int)) → Q (.ref p) H'
theorem ok_effect_of_exchange (T : Txt K mg) : FnOk P w K mg base CX0 7 T.a_effect_of_exchange T.d_effect_of_exchange ["start", "heights", "index"] (spEX K) := by
  refine T.F_effect_of_exchange.ok sc_effect_of_exchange (fun vs H Q E h => ?_) (fun cdv A outer s H vs Q E hr h => ?_)
  · obtain ⟨a, b, i, x, cs, hs, rfl, _⟩ := h; rfl
  · obtain ⟨a, b, i, x, cs, hs, rfl, hA, hB, st, cd, hx, hi1, q⟩ := h
    have ld := cd.len
    have hi := get_lt hx
    have xb := cd.all x (List.mem_of_getElem? hx)
    have dl1 := delAt_len hi
    have cdd := cd.del hi
    have cdi : IsCards (insAt (delAt hs i) (i + 1) x) := cdd.ins (by omega) (by omega) xb.1 xb.2
    have lm : (insAt (delAt hs i) (i + 1) x).length = hs.length := by rw [insAt_len (by omega)]; omega
    refine ⟨_, (pss_cons (ps_expr (pe_call (ok_check_start_and_cards T) (hr.mono (by decide)) (by rfl) T.g_check_start_and_cards T.F_check_start_and_cards.kp T.b_check_start_and_cards .nil pass0 (pa_cons (pv 0) (pa_cons (pv 1) pa_nil))))
  (pss_cons (ps_expr (pe_call (ok_check_index T) (hr.mono (by decide)) (by rfl) T.g_check_index T.F_check_index.kp T.b_check_index .nil pass0 (pa_cons (pv 2) (pa_cons (pe_op op_sub (pe_callB call_len_seq (by rfl) T.z_len (by decide +kernel) (pa_cons (pv 1) pa_nil)) pe_int) pa_nil))))
  (pss_one (ps_ret (pe_call (ok_growths T) (hr.mono (by decide)) (by rfl) T.g_growths T.F_growths.kp T.b_growths .nil pass0 (pa_cons (pe_call (ok_tops_of T) hr (by rfl) T.g_tops_of T.F_tops_of.kp T.b_tops_of .nil pass0 (pa_cons (pv 0) (pa_cons (pv 1) pa_nil))) (pa_cons (pe_call (ok_tops_of T) hr (by rfl) T.g_tops_of T.F_tops_of.kp T.b_tops_of .nil pass0 (pa_cons (pv 0) (pa_cons (pe_call (ok_with_moved_item T) (hr.mono (by decide)) (by rfl) T.g_with_moved_item T.F_with_moved_item.kp T.b_with_moved_item .nil pass0 (pa_cons (pv 1) (pa_cons (pv 2) (pa_cons (pe_op op_add (pv 2) pe_int) pa_nil)))) pa_nil))) pa_nil))))))), ?_⟩
    refine ⟨.ref a, rfl, .ref b, rfl, a, b, cs, hs, rfl, hA, hB, st, cd, fun H1 s1 => ?_⟩
    refine ⟨.int i, rfl, .ref b, rfl, b, _, rfl, .inl (s1.seq hB), _, 1, rfl, rfl, i, _, rfl, by omega, by rw [List.length_map]; omega, ?_⟩
    refine ⟨.ref a, rfl, .ref b, rfl, a, b, cs, hs, rfl, s1.seq hA, s1.seq hB, st, cd, fun H4 p4 s4 np4 ep4 => ?_⟩
    have S4 := s1.trans s4
    refine ⟨.ref a, rfl, .ref b, rfl, .int i, rfl, .int i, rfl, i, 1, rfl, rfl, b, i, i + 1, x, hs, rfl, S4.seq hB, hx, hi1, by omega, fun H3 p3 s3 np3 ep3 => ?_⟩
    have S3 := S4.trans s3
    refine ⟨a, p3, cs, _, rfl, S3.seq hA, SqL.of ep3, st, cdi, fun H5 p5 s5 np5 ep5 => ?_⟩
    have S5 := S3.trans s5
    refine ⟨p4, p5, _, _, rfl, SqL.of ((s3.trans s5) _ _ ep4), SqL.of ep5, by rw [tops_len, tops_len, lm], by rw [tops_len]; omega, fun H6 p6 s6 np6 ep6 => ?_⟩
    exact q H6 p6 (S5.trans s6) (S5.free np6) ep6
end

section
variable {P : Program} {w : World} {K : PySem.W.Frag} {mg : Str → Option Value} {base : Heap}
/-- a source of at most n draws so far -/
def Src (H : Hp) (a : Addr) (n : Int) : Prop := ∃ p0 p1 p2 : Int, H a = some (.lst [.int p0, .int p1, .int p2]) ∧ 0 ≤ p0 ∧ 0 ≤ p1 ∧ p1 ≤ 1000000000000000000000000000000000000000000000000000000000000000 ∧ 0 ≤ p2 ∧ p2 ≤ n
theorem Src.mono {H : Hp} {a : Addr} {n m : Int} (h : Src H a n) (l : n ≤ m) : Src H a m := by
  obtain ⟨p0, p1, p2, e, h0, h1, h2, h3, h4⟩ := h
  exact ⟨p0, p1, p2, e, h0, h1, h2, h3, by omega⟩
theorem Src.same {H H' : Hp} {a : Addr} {n : Int} (h : Src H a n) (s : Same H H') : Src H' a n := by
  obtain ⟨p0, p1, p2, e, r⟩ := h
  exact ⟨p0, p1, p2, s _ _ e, r⟩
theorem Src.at {H : Hp} {a : Addr} {n : Int} (h : Src H a n) : ∃ o, H a = some o := by
  obtain ⟨_, _, _, e, _⟩ := h
  exact ⟨_, e⟩
theorem Src.ne {H : Hp} {a p : Addr} {n : Int} (h : Src H a n) (np : H p = none) : p ≠ a := fun z => by
  obtain ⟨o, eo⟩ := h.at
  rw [z] at np; rw [np] at eo; cases eo
theorem Src.upd {H : Hp} {a D : Addr} {o : HO} {n : Int} (h : Src H a n) (ne : a ≠ D) : Src (L2.upd H D o) a n := by
  obtain ⟨p0, p1, p2, e, r⟩ := h
  exact ⟨p0, p1, p2, by rw [upd_ne ne]; exact e, r⟩
theorem le_big {r : Int} (h : r ≤ 1000000000000000000000000000000) : r ≤ big := h
theorem but_set {a D : Addr} {H H' : Hp} {o : HO} (b : But a H H') (n : H D = none) : But a H (L2.upd H' D o) := fun c u nc e => by
  rw [upd_ne (ne_of_none e n)]
  exact b _ _ nc e
theorem But.free {H H' : Hp} {a D : Addr} {n : Int} (b : But a H H') (p : Src H' a n) (nD : H' D = none) : H D = none := by
  cases e : H D with
  | none => rfl
  | some u =>
    have : D ≠ a := p.ne nD
    rw [b _ _ this e] at nD; cases nD
theorem fmod_lt {i j : Int} (h : 0 < j) : 0 ≤ i.fmod j ∧ i.fmod j < j := by
  rw [Int.fmod_eq_emod_of_nonneg i (by omega)]
  exact ⟨Int.emod_nonneg i (by omega), Int.emod_lt_of_pos i h⟩
theorem atI_pick {xs : List V} {r : Int} (h0 : 0 ≤ r) (h1 : r < xs.length) : ∃ v ∈ xs, atI xs r = some v := by
  obtain ⟨k, rfl⟩ := Int.eq_ofNat_of_zero_le h0
  have hk : k < xs.length := by omega
  exact ⟨xs[k], List.getElem_mem hk, atI_nat (List.getElem?_eq_getElem hk)⟩
theorem pick_int {ns : List Int} {r lo hi : Int} (h0 : 0 ≤ r) (h1 : r < ns.length) (hb : ∀ n ∈ ns, lo ≤ n ∧ n ≤ hi) : ∃ m, atI (ns.map V.int) r = some (.int m) ∧ lo ≤ m ∧ m ≤ hi := by
  obtain ⟨v, hv, e⟩ := atI_pick (xs := ns.map V.int) h0 (by rw [List.length_map]; exact h1)
  obtain ⟨m, hm, rfl⟩ := List.mem_map.mp hv
  exact ⟨m, e, hb m hm⟩
theorem IsStart.ne {cs : List Int} (h : IsStart cs) : cs ≠ [] := fun e => by have := h.len; rw [e] at this; simp at this
def spOpen (K : PySem.W.Frag) : Sp := fun vs H Q _ => ∃ (a : Addr) (k : Nat) (ns : List Int), vs = [.ref a, .int k] ∧ SqL K H a (ns.map V.int) ∧ ∀ p H', H p = none → Same H H' → Src H' p 0 → Q (.ref p) H'
theorem ok_law_open_source (T : Txt K mg) : FnOk P w K mg base CX0 1 T.a_law_open_source T.d_law_open_source ["script", "k"] (spOpen K) := by
  refine T.F_law_open_source.ok sc_law_open_source (fun vs H Q E h => ?_) (fun cdv A outer s H vs Q E hr h => ?_)
  · obtain ⟨a, k, ns, rfl, _⟩ := h; rfl
  · obtain ⟨a, k, ns, rfl, hS, q⟩ := h
    refine ⟨_, (pss_cons (ps_set (i := 2) sc_law_open_source.nd rfl (.inl rfl) pe_int)
  (pss_cons (ps_if (pt_cmpR op_lt (pv 1) (pe_callB call_len_seq (by rfl) T.z_len (by decide +kernel) (pa_cons (pv 0) pa_nil)) (nomark _))
  (pss_one (ps_set (i := 2) sc_law_open_source.nd rfl (.inl rfl) (pe_ix ix_list (pv 0) (pv 1) (fun _ _ => rfl))))
  pss_nil)
  (pss_one (ps_ret (pe_lst (pa_cons (pe_callB (call_max2 rfl) (by rfl) T.z_max (by decide +kernel) (pa_cons pe_int (pa_cons (pe_op op_sub (pv 2) (pe_op op_powW pe_int pe_int)) pa_nil))) (pa_cons (pe_op op_add (pe_op op_mulW (pe_op op_modN (pv 2) (pe_op op_add (pe_op op_powW pe_int pe_int) pe_int)) pe_int) (pe_op op_modN (pv 1) pe_int)) (pa_cons pe_int pa_nil)))))))), ?_⟩
    have tail : ∀ cell : Int, (fun σ' H1 => tRet (tLst (tCons (tCB (fun xs H Q => ∃ i j, xs = [V.int i, V.int j] ∧ Q (V.int (if j > i then j else i)) H) (tCons (tC (.int 0)) (tCons (tOp (rI0 fun i j => .int (i - j)) (tVar 2) (tOp (rI CPowW fun i j => .int (i ^ j.toNat)) (tC (.int 10)) (tC (.int 18)))) tNil)))
        (tCons (tOp (rI0 fun i j => .int (i + j)) (tOp (rI CMulW fun i j => .int (i * j)) (tOp (rI (fun _ j => j ≠ 0) fun i j => .int (i.fmod j)) (tVar 2) (tOp (rI0 fun i j => .int (i + j)) (tOp (rI CPowW fun i j => .int (i ^ j.toNat)) (tC (.int 10)) (tC (.int 60))) (tC (.int 7)))) (tC (.int 64))) (tOp (rI (fun _ j => j ≠ 0) fun i j => .int (i.fmod j)) (tVar 1) (tC (.int 64)))) (tCons (tC (.int 0)) tNil)))) { nx := fun x H' => Q V.non H', rt := Q } σ' H1) [some (.ref a), some (.int k), some (.int cell)] H := fun cell => by
      have e60 : ((10 : Int) ^ (60 : Int).toNat + 7) = 1000000000000000000000000000000000000000000000000000000000007 := by decide +kernel
      have hm := fmod_lt (i := cell) (j := 10 ^ (60 : Int).toNat + 7) (by rw [e60]; decide)
      have hk := fmod_lt (i := (k : Int)) (j := 64) (by decide)
      refine ⟨.int cell, rfl, 10, 18, rfl, rfl, ⟨by decide, by decide⟩, cell, _, rfl, rfl, 0, _, rfl, .int cell, rfl, 10, 60, rfl, rfl, ⟨by decide, by decide⟩, _, 7, rfl, rfl, cell, _, rfl, rfl, (by show _ ≠ (0 : Int); rw [e60]; decide), _, 64, rfl, rfl, ?_, .int k, rfl, k, 64, rfl, rfl, (by show (64 : Int) ≠ 0; decide), _, _, rfl, rfl, (by show 3 ≤ sizeLine; decide), fun p np => ?_⟩
      · refine wide_mul (a := 400) (b := 20) ?_ (by decide) (by decide) (by decide) (by decide)
        have e : (2 : Nat) ^ 400 = 2582249878086908589655919172003011874329705792829223512830659356540647622016841194629645353280137831435903171972747493376 := by decide +kernel
        rw [e60] at hm
        rw [e60, e]
        omega
      · refine q p _ np (same_new _ np) ⟨_, _, 0, upd_same, ?_, ?_, ?_, by decide, by decide⟩
        · show 0 ≤ (if (cell - 10 ^ (18 : Int).toNat) > 0 then (cell - 10 ^ (18 : Int).toNat) else (0 : Int))
          split <;> omega
        · rw [e60] at hm ⊢
          omega
        · rw [e60] at hm ⊢
          omega
    refine ⟨.int k, rfl, .ref a, rfl, a, _, rfl, .inl hS, _, _, rfl, rfl, _, rfl, ite2 (fun e => ?_) (fun e => ?_)⟩
    · have hk : k < ns.length := by
        have := of_decide_eq_true e
        rw [List.length_map] at this
        omega
      refine ⟨.ref a, rfl, .int k, rfl, a, _, _, .int ns[k], rfl, rfl, hS, atI_nat ?_, tail _⟩
      rw [List.getElem?_map, List.getElem?_eq_getElem hk]
      rfl
    · exact tail 0
def mix1 (p1 p2 : Int) : Int := ((p1 + 40503 * (p2 + 1) * (p2 + 1) + 11) ^ (3 : Int).toNat).fmod 2305843009213693951
def mix2 (p1 p2 : Int) : Int := ((mix1 p1 p2 + 69621 * (p2 + 1)) ^ (3 : Int).toNat).fmod 2305843009213693921
def spDraw : Sp := fun vs H Q _ => ∃ (a : Addr) (m n : Int), vs = [.ref a, .int m] ∧ Src H a n ∧ n ≤ 1000000 ∧ 1 ≤ m ∧ m ≤ 10000000000000000000000000000000 ∧ ∀ r H', But a H H' → Src H' a (n + 1) → 0 ≤ r → r < m → Q (.int r) H'
theorem ok_law_draw (T : Txt K mg) : FnOk P w K mg base CX0 1 T.a_law_draw T.d_law_draw ["source", "limit"] spDraw := by
  refine T.F_law_draw.ok sc_law_draw (fun vs H Q E h => ?_) (fun cdv A outer s H vs Q E hr h => ?_)
  · obtain ⟨a, m, n, rfl, _⟩ := h; rfl
  · obtain ⟨a, m, n, rfl, ⟨p0, p1, p2, e, h0, h1, h2, h3, h4⟩, hn, m1, m2, q⟩ := h
    refine ⟨_, (pss_cons (ps_if (pt_cmpR op_gt (pe_ix ix_list (pv 0) pe_int (fun _ _ => rfl)) pe_int (nomark _))
  (pss_cons (ps_set (i := 2) sc_law_draw.nd rfl (.inl rfl) (pe_op op_modN (pe_ix ix_list (pv 0) pe_int (fun _ _ => rfl)) (pv 1)))
  (pss_cons (ps_asg (pe_op op_fdivW (pe_ix ix_list (pv 0) pe_int (fun _ _ => rfl)) (pv 1)) (pg_sub (pv 0) pe_int set_list))
  (pss_one (ps_ret (pv 2)))))
  pss_nil)
  (pss_cons (ps_asg (pe_op op_add (pe_ix ix_list (pv 0) pe_int (fun _ _ => rfl)) pe_int) (pg_sub (pv 0) pe_int set_list))
  (pss_cons (ps_set (i := 3) sc_law_draw.nd rfl (.inl rfl) (pe_op op_modN (pe_op op_powW (pe_op op_add (pe_op op_add (pe_ix ix_list (pv 0) pe_int (fun _ _ => rfl)) (pe_op op_mulW (pe_op op_mulW pe_int (pe_ix ix_list (pv 0) pe_int (fun _ _ => rfl))) (pe_ix ix_list (pv 0) pe_int (fun _ _ => rfl)))) pe_int) pe_int) pe_int))
  (pss_cons (ps_set (i := 3) sc_law_draw.nd rfl (.inl rfl) (pe_op op_modN (pe_op op_powW (pe_op op_add (pv 3) (pe_op op_mulW pe_int (pe_ix ix_list (pv 0) pe_int (fun _ _ => rfl)))) pe_int) pe_int))
  (pss_one (ps_ret (pe_op op_modN (pe_op op_fdivW (pv 3) pe_int) (pv 1)))))))), ?_⟩
    refine ⟨.ref a, rfl, a, _, 0, .int p0, rfl, rfl, SqL.of e, rfl, p0, 0, rfl, rfl, _, rfl, ite2 (fun hc => ?_) (fun hc => ?_)⟩
    · -- the cell's own digits
      have hm := fmod_lt (i := p0) (j := m) (by omega)
      refine ⟨.ref a, rfl, a, _, 0, .int p0, rfl, rfl, SqL.of e, rfl, .int m, rfl, p0, m, rfl, rfl, (by show m ≠ 0; omega), ?_⟩
      refine ⟨.ref a, rfl, a, _, 0, .int p0, rfl, rfl, SqL.of e, rfl, .int m, rfl, p0, m, rfl, rfl, fdivW (by omega) (by omega), .ref a, rfl, a, _, 0, 0, rfl, rfl, e, rfl, ?_⟩
      exact ⟨_, rfl, q _ _ (But.upd _ _ _) ⟨p0 / m, p1, p2, upd_same, Int.ediv_nonneg h0 (by omega), h1, h2, h3, by omega⟩ hm.1 hm.2⟩
    · refine ⟨.ref a, rfl, a, _, 2, .int p2, rfl, rfl, SqL.of e, rfl, p2, 1, rfl, rfl, .ref a, rfl, a, _, 2, 2, rfl, rfl, e, rfl, ?_⟩
      have e1 : (upd H a (.lst [.int p0, .int p1, .int (p2 + 1)])) a = some (.lst [.int p0, .int p1, .int (p2 + 1)]) := upd_same
      have hq : (p2 + 1) * (p2 + 1) ≤ 2000000 * 2000000 := Int.mul_le_mul (by omega) (by omega) (by omega) (by omega)
      have hq0 : 0 ≤ (p2 + 1) * (p2 + 1) := Int.mul_nonneg (by omega) (by omega)
      have e7 : 40503 * (p2 + 1) * (p2 + 1) = 40503 * ((p2 + 1) * (p2 + 1)) := Int.mul_assoc ..
      have ebig : (2 : Nat) ^ 400 = 2582249878086908589655919172003011874329705792829223512830659356540647622016841194629645353280137831435903171972747493376 := by decide +kernel
      refine ⟨.ref a, rfl, a, _, 1, .int p1, rfl, rfl, SqL.of e1, rfl, .ref a, rfl, a, _, 2, .int (p2 + 1), rfl, rfl, SqL.of e1, rfl, 40503, p2 + 1, rfl, rfl, ?_, .ref a, rfl, a, _, 2, .int (p2 + 1), rfl, rfl, SqL.of e1, rfl, 40503 * (p2 + 1), p2 + 1, rfl, rfl, ?_, p1, 40503 * (p2 + 1) * (p2 + 1), rfl, rfl, p1 + 40503 * (p2 + 1) * (p2 + 1), 11, rfl, rfl, p1 + 40503 * (p2 + 1) * (p2 + 1) + 11, 3, rfl, rfl, ?_, _, 2305843009213693951, rfl, rfl, (by show (2305843009213693951 : Int) ≠ 0; decide), ?_⟩
      · exact wide_mul (a := 20) (b := 60) (by decide) (by omega) (by decide) (by decide) (by decide)
      · exact wide_mul (a := 60) (b := 60) (by omega) (by omega) (by decide) (by decide) (by decide)
      · refine ⟨by decide, ?_⟩
        have := bits_le (x := p1 + 40503 * (p2 + 1) * (p2 + 1) + 11) (b := 400) (by rw [ebig]; omega) (by decide)
        omega
      · have hs := fmod_lt (i := (p1 + 40503 * (p2 + 1) * (p2 + 1) + 11) ^ (3 : Int).toNat) (j := 2305843009213693951) (by decide)
        have hs' : 0 ≤ mix1 p1 p2 ∧ mix1 p1 p2 < 2305843009213693951 := hs
        refine ⟨.int (mix1 p1 p2), rfl, .ref a, rfl, a, _, 2, .int (p2 + 1), rfl, rfl, SqL.of e1, rfl, 69621, p2 + 1, rfl, rfl, ?_, mix1 p1 p2, 69621 * (p2 + 1), rfl, rfl, mix1 p1 p2 + 69621 * (p2 + 1), 3, rfl, rfl, ?_, _, 2305843009213693921, rfl, rfl, (by show (2305843009213693921 : Int) ≠ 0; decide), ?_⟩
        · exact wide_mul (a := 20) (b := 60) (by decide) (by omega) (by decide) (by decide) (by decide)
        · refine ⟨by decide, ?_⟩
          have := bits_le (x := mix1 p1 p2 + 69621 * (p2 + 1)) (b := 400) (by rw [ebig]; omega) (by decide)
          omega
        · have hm := fmod_lt (i := mix2 p1 p2 / 65537) (j := m) (by omega)
          refine ⟨.int (mix2 p1 p2), rfl, mix2 p1 p2, 65537, rfl, rfl, fdivW (by decide) (by decide), .int m, rfl, _, m, rfl, rfl, (by show m ≠ 0; omega), ?_⟩
          exact q _ _ (But.upd _ _ _) ⟨p0, p1, p2 + 1, e1, h0, h1, h2, by omega, by omega⟩ hm.1 hm.2
def spHeight : Sp := fun vs H Q _ => ∃ (a : Addr) (n : Int), vs = [.ref a] ∧ Src H a n ∧ n ≤ 990000 ∧ ∀ r H', But a H H' → Src H' a (n + 3) → 1 ≤ r → r ≤ big → Q (.int r) H'
theorem ok_law_height (T : Txt K mg) : FnOk P w K mg base CX0 2 T.a_law_height T.d_law_height ["source"] spHeight := by
  refine T.F_law_height.ok sc_law_height (fun vs H Q E h => ?_) (fun cdv A outer s H vs Q E hr h => ?_)
  · obtain ⟨a, n, rfl, _⟩ := h; rfl
  · obtain ⟨a, n, rfl, hP, hn, q⟩ := h
    have eb : ((10 : Int) ^ (30 : Int).toNat) = 1000000000000000000000000000000 := by decide +kernel
    refine ⟨_, (pss_one (ps_ret (pe_ix ix_list (pe_lst (pa_cons (pe_op op_add pe_int (pe_call (ok_law_draw T) hr (by rfl) T.g_law_draw T.F_law_draw.kp T.b_law_draw .nil pass0 (pa_cons (pv 0) (pa_cons pe_int pa_nil)))) (pa_cons (pe_op op_add pe_int (pe_call (ok_law_draw T) hr (by rfl) T.g_law_draw T.F_law_draw.kp T.b_law_draw .nil pass0 (pa_cons (pv 0) (pa_cons (pe_op op_powW pe_int pe_int) pa_nil)))) (pa_cons (pe_op op_powW pe_int pe_int) pa_nil)))) (pe_call (ok_law_draw T) hr (by rfl) T.g_law_draw T.F_law_draw.kp T.b_law_draw .nil pass0 (pa_cons (pv 0) (pa_cons pe_int pa_nil))) (fun _ _ => rfl)))), ?_⟩
    refine ⟨.ref a, rfl, a, 9, n, rfl, hP, by omega, by decide, by decide, fun r1 H2 b2 p2 r10 r11 => ⟨1, r1, rfl, rfl, ?_⟩⟩
    refine ⟨.ref a, rfl, 10, 30, rfl, rfl, ⟨by decide, by decide⟩, a, _, _, rfl, p2, by omega, by rw [eb]; decide, by rw [eb]; decide, fun r2 H3 b3 p3 r20 r21 => ⟨1, r2, rfl, rfl, 10, 30, rfl, rfl, ⟨by decide, by decide⟩, (by show 3 ≤ sizeLine; decide), fun o3 n3 => ?_⟩⟩
    rw [eb] at r21
    have s3 := same_new (H := H3) (p := o3) (.lst [.int (1 + r1), .int (1 + r2), .int (10 ^ (30 : Int).toNat)]) n3
    refine ⟨.ref a, rfl, a, 3, _, rfl, p3.same s3, by omega, by decide, by decide, fun r3 H4 b4 p4 r30 r31 => ?_⟩
    obtain ⟨m, em, m0, m1⟩ := pick_int (ns := [1 + r1, 1 + r2, 10 ^ (30 : Int).toNat]) (lo := 1) (hi := 1000000000000000000000000000000) r30 r31 (fun z hz => by
      simp only [List.mem_cons, List.not_mem_nil, or_false] at hz
      rw [eb] at hz
      rcases hz with rfl | rfl | rfl <;> omega)
    refine ⟨o3, _, _, .int m, rfl, rfl, SqL.of (b4 _ _ (p3.ne n3) upd_same), em, ?_⟩
    exact q m H4 ((b2.trans b3).trans ((But.of s3).trans b4)) (p4.mono (by omega)) m0 (le_big m1)
end

section
variable {P : Program} {w : World} {K : PySem.W.Frag} {mg : Str → Option Value} {base : Heap}
/-- a list that is filled with drawn heights -/
def PvL (a f : Addr) (H0 : Hp) (n lo : Int) (i : Nat) (H' : Hp) : Prop :=
  ∃ bs : List Int, But a H0 H' ∧ Src H' a (n + 10 * i) ∧ H' f = some (.lst (bs.map V.int)) ∧ bs.length = i ∧ ∀ b ∈ bs, lo ≤ b ∧ b ≤ big
theorem PvL.app {a f : Addr} {H0 H' H4 : Hp} {n lo y : Int} {i : Nat} (bs : List Int) (b0 : But a H0 H') (ef : H' f = some (.lst (bs.map V.int))) (l : bs.length = i) (al : ∀ b ∈ bs, lo ≤ b ∧ b ≤ big) (nf : H0 f = none) (nfa : f ≠ a)
    (b : But a H' H4) (p : Src H4 a (n + 10 * i + 10)) (h1 : lo ≤ y) (h2 : y ≤ big) : PvL a f H0 n lo (i + 1) (upd H4 f (.lst (bs.map V.int ++ [.int y]))) := by
  refine ⟨bs ++ [y], but_set (b0.trans b) nf, (p.upd nfa.symm).mono (by omega), ?_, by rw [List.length_append, l]; rfl, fun z hz => ?_⟩
  · rw [upd_same, List.map_append]; rfl
  · rcases List.mem_append.mp hz with hz | hz
    · exact al z hz
    · rw [List.mem_singleton.mp hz]; exact ⟨h1, h2⟩
theorem ifx {tt : Bool} {σ : L2.St} {H : Hp} {Q : VK} {i : Nat} {m c : Int} (e : σ[i]? = some (some (.int m))) (h : Q (.int (if tt = true then c else m)) H) : if tt = true then tC (.int c) σ H Q else tVar i σ H Q := by
  cases tt
  · exact ⟨_, e, h⟩
  · exact h
def spColumns (K : PySem.W.Frag) : Sp := fun vs H Q _ => ∃ (a s : Addr) (n : Int) (ns : List Int), vs = [.ref a, .ref s] ∧ Src H a n ∧ n ≤ 900000 ∧ Scr K H s (ns.map V.int) ∧
  ∀ p H' (bs : List Int), H p = none → But a H H' → Src H' a (n + 400) → H' p = some (.lst (bs.map V.int)) → IsStart bs → Q (.ref p) H'
theorem ok_law_columns (T : Txt K mg) : FnOk P w K mg base CX0 2 T.a_law_columns T.d_law_columns ["source", "script"] (spColumns K) := by
  refine T.F_law_columns.ok sc_law_columns (fun vs H Q E h => ?_) (fun cdv A outer s0 H vs Q E hr h => ?_)
  · obtain ⟨a, s, n, ns, rfl, _⟩ := h; rfl
  · obtain ⟨a, s, n, ns, rfl, hP, hn, hS, q⟩ := h
    have eb : ((10 : Int) ^ (30 : Int).toNat) = 1000000000000000000000000000000 := by decide +kernel
    have nofr : ∀ o u, H a ≠ some (.frz o u) := fun o u z => by
      obtain ⟨_, _, _, e, _⟩ := hP
      rw [e] at z; cases z
    refine ⟨_, (pss_cons (ps_set (i := 2) sc_law_columns.nd rfl (.inl rfl) (pe_ix ix_list (pe_lst (pa_cons (pe_op op_add pe_int (pe_call (ok_law_draw T) hr (by rfl) T.g_law_draw T.F_law_draw.kp T.b_law_draw .nil pass0 (pa_cons (pv 0) (pa_cons pe_int pa_nil)))) (pa_cons (pe_op op_add pe_int (pe_call (ok_law_draw T) hr (by rfl) T.g_law_draw T.F_law_draw.kp T.b_law_draw .nil pass0 (pa_cons (pv 0) (pa_cons pe_int pa_nil)))) (pa_cons pe_int pa_nil)))) (pe_call (ok_law_draw T) hr (by rfl) T.g_law_draw T.F_law_draw.kp T.b_law_draw .nil pass0 (pa_cons (pv 0) (pa_cons pe_int pa_nil))) (fun _ _ => rfl)))
  (pss_cons (ps_par (i := 3) (j := 4) rfl sc_law_columns.nd rfl rfl (by decide) rfl rfl (pa_cons (pe_call (ok_law_draw T) hr (by rfl) T.g_law_draw T.F_law_draw.kp T.b_law_draw .nil pass0 (pa_cons (pv 0) (pa_cons pe_int pa_nil))) (pa_cons (pe_lst pa_nil) pa_nil)) (by rfl))
  (pss_cons (ps_for PassesOwn.never rfl (pi_range1 (by rfl) T.z_range (pa_cons (pe_ifExp (pt_cmpR (op_eqD hr.units) (pv 1) (pe_lst pa_nil) (nomark _)) pe_int (pv 2)) pa_nil)) (pg_name (i := 5) sc_law_columns.nd rfl (.inl rfl))
  (pss_cons (ps_set (i := 6) sc_law_columns.nd rfl (.inl rfl) (pe_lst (pa_cons pe_int (pa_cons (pe_call (ok_law_draw T) hr (by rfl) T.g_law_draw T.F_law_draw.kp T.b_law_draw .nil pass0 (pa_cons (pv 0) (pa_cons pe_int pa_nil))) (pa_cons (pe_call (ok_law_draw T) hr (by rfl) T.g_law_draw T.F_law_draw.kp T.b_law_draw .nil pass0 (pa_cons (pv 0) (pa_cons (pe_op op_add (pe_op op_powW pe_int pe_int) pe_int) pa_nil))) (pa_cons (pe_op op_mulW (pe_op op_powW pe_int pe_int) (pe_call (ok_law_draw T) hr (by rfl) T.g_law_draw T.F_law_draw.kp T.b_law_draw .nil pass0 (pa_cons (pv 0) (pa_cons pe_int pa_nil)))) pa_nil))))))
  (pss_one (ps_expr (pe_bm PySem.F.plainAttrs_list PySem.F.slot_list_append PySem.F.type_list_append mt_append (pv 4) (pa_cons (pe_ix ix_list (pv 6) (pv 3) (fun _ _ => rfl)) pa_nil))))))
  (pss_one (ps_ret (pv 4)))))), ?_⟩
    -- many
    refine ⟨.ref a, rfl, a, 4, n, rfl, hP, by omega, by decide, by decide, fun r1 H2 b2 p2 r10 r11 => ⟨1, r1, rfl, rfl, ?_⟩⟩
    refine ⟨.ref a, rfl, a, 30, _, rfl, p2, by omega, by decide, by decide, fun r2 H3 b3 p3 r20 r21 => ⟨1, r2, rfl, rfl, (by show 3 ≤ sizeLine; decide), fun o3 n3 => ?_⟩⟩
    have s3 := same_new (H := H3) (p := o3) (.lst [.int (1 + r1), .int (1 + r2), .int 30]) n3
    refine ⟨.ref a, rfl, a, 3, _, rfl, p3.same s3, by omega, by decide, by decide, fun r3 H4 b4 p4 r30 r31 => ?_⟩
    obtain ⟨m, em, m0, m1⟩ := pick_int (ns := [1 + r1, 1 + r2, 30]) (lo := 1) (hi := 30) r30 r31 (fun z hz => by
      simp only [List.mem_cons, List.not_mem_nil, or_false] at hz
      rcases hz with rfl | rfl | rfl <;> omega)
    refine ⟨o3, _, _, .int m, rfl, rfl, SqL.of (b4 _ _ (p3.ne n3) upd_same), em, ?_⟩
    have B4 : But a H H4 := (b2.trans b3).trans ((But.of s3).trans b4)
    -- style, found
    refine ⟨.ref a, rfl, a, 4, _, rfl, p4, by omega, by decide, by decide, fun st H5 b5 p5 st0 st1 => ⟨Nat.zero_le _, fun f nf => ⟨_, _, rfl, ?_⟩⟩⟩
    have sf := same_new (H := H5) (p := f) (.lst []) nf
    have B5 : But a H H5 := B4.trans b5
    have nfa : f ≠ a := p5.ne nf
    have nfH : H f = none := But.free B5 p5 nf
    have ef : (upd H5 f (.lst [])) f = some (.lst []) := upd_same
    have B6 : But a H (upd H5 f (.lst [])) := B5.trans (But.of sf)
    have p6 := p5.same sf
    generalize upd H5 f (.lst []) = H6 at ef B6 p6 ⊢
    -- the range
    refine ⟨.ref s, rfl, Nat.zero_le _, fun o no => ⟨_, _, .lst ((hS.but nofr (B6.trans (But.of (same_new _ no)))).sq) (dpInts ns), .lst (SqL.of upd_same) .nil, shapedInts ns, rfl, _, rfl, ?_⟩⟩
    generalize PyData.eqv _ _ = tt
    have so := same_new (H := H6) (p := o) (.lst []) no
    have ef7 := so _ _ ef
    have B7 := B6.trans (But.of so)
    have p7 := p6.same so
    generalize upd H6 o (.lst []) = H7 at ef7 B7 p7 ⊢
    refine ifx (c := 2) (m := m) rfl ?_
    have hN : ∃ N : Int, (if tt = true then (2 : Int) else m) = N ∧ 1 ≤ N ∧ N ≤ 30 := by
      cases tt
      · exact ⟨m, rfl, m0, m1⟩
      · exact ⟨2, rfl, by decide, by decide⟩
    obtain ⟨N, eN, N0, N1⟩ := hN
    rw [eN]
    refine ⟨N, rfl, by omega, by omega, ?_⟩
    refine for_range (lo := 0) (n := N.toNat) (fun i σ H' => ∃ y5 y6, σ = [some (.ref a), some (.ref s), some (.int m), some (.int st), some (.ref f), y5, y6] ∧ PvL a f H (n + 4) 0 i H')
        ⟨none, none, rfl, [], B7, p7.mono (by omega), ef7, rfl, fun b hb => by cases hb⟩ (fun i σ H' hi h => ?_) (fun σ H' h => ?_)
    · obtain ⟨y5, y6, rfl, bs, b0, p0, eF, l, al⟩ := h
      refine ⟨.ref a, rfl, a, 10, _, rfl, p0, by omega, by decide, by decide, fun t1 H8 b8 p8 t10 t11 => ?_⟩
      refine ⟨.ref a, rfl, 10, 30, rfl, rfl, ⟨by decide, by decide⟩, _, 1, rfl, rfl, a, _, _, rfl, p8, by omega, by rw [eb]; decide, by rw [eb]; decide, fun t2 H9 b9 p9 t20 t21 => ?_⟩
      rw [eb] at t21
      refine ⟨10, 30, rfl, rfl, ⟨by decide, by decide⟩, .ref a, rfl, a, 2, _, rfl, p9, by omega, by decide, by decide, fun t3 H10 b10 p10 t30 t31 => ⟨_, t3, rfl, rfl, ?_, (by show 4 ≤ sizeLine; decide), fun o5 n5 => ?_⟩⟩
      · refine wide_mul (a := 110) (b := 10) ?_ (by omega) (by decide) (by decide) (by decide)
        rw [eb]
        decide
      have s5 := same_new (H := H10) (p := o5) (.lst [.int 0, .int t1, .int t2, .int (10 ^ (30 : Int).toNat * t3)]) n5
      have e5 : (upd H10 o5 (.lst [.int 0, .int t1, .int t2, .int (10 ^ (30 : Int).toNat * t3)])) o5 = some (.lst [.int 0, .int t1, .int t2, .int (10 ^ (30 : Int).toNat * t3)]) := upd_same
      have B11 := ((b8.trans b9).trans b10).trans (But.of s5)
      have eF11 := B11 _ _ nfa eF
      have p11 := p10.same s5
      obtain ⟨y, ey, y0, y1⟩ := pick_int (ns := [0, t1, t2, 10 ^ (30 : Int).toNat * t3]) (lo := 0) (hi := 1000000000000000000000000000000) st0 st1 (fun z hz => by
        simp only [List.mem_cons, List.not_mem_nil, or_false] at hz
        rw [eb] at hz
        rcases hz with rfl | rfl | rfl | rfl <;> omega)
      refine ⟨.ref f, rfl, .inl ⟨rfl, _, SqL.of eF11⟩, .ref o5, rfl, .int st, rfl, o5, _, _, .int y, rfl, rfl, SqL.of e5, ey, f, _, .int y, rfl, rfl, eF11, ?_, ?_⟩
      · rw [List.length_map, l]; exact small_of (m := 100) (by omega) (by decide)
      · exact ⟨_, _, rfl, PvL.app bs b0 eF l al nfH nfa B11 (p11.mono (by omega)) y0 (le_big y1)⟩
    · obtain ⟨y5, y6, rfl, bs, b0, p0, eF, l, al⟩ := h
      exact ⟨.ref f, rfl, q f H' bs nfH b0 (p0.mono (by omega)) eF ⟨by omega, al⟩⟩
def spCardsL (K : PySem.W.Frag) : Sp := fun vs H Q _ => ∃ (a s : Addr) (n : Int) (M : Nat) (ns : List Int), vs = [.ref a, .ref s, .int M] ∧ 8 ≤ M ∧ M ≤ 200 ∧ Src H a n ∧ n ≤ 900000 ∧ Scr K H s (ns.map V.int) ∧
  ∀ p H' (bs : List Int), H p = none → But a H H' → Src H' a (n + 2100) → H' p = some (.lst (bs.map V.int)) → bs.length ≤ M → IsCards bs → Q (.ref p) H'
theorem ok_law_cards (T : Txt K mg) : FnOk P w K mg base CX0 3 T.a_law_cards T.d_law_cards ["source", "script", "most"] (spCardsL K) := by
  refine T.F_law_cards.ok sc_law_cards (fun vs H Q E h => ?_) (fun cdv A outer s0 H vs Q E hr h => ?_)
  · obtain ⟨a, s, n, M, ns, rfl, _⟩ := h; rfl
  · obtain ⟨a, s, n, M, ns, rfl, M0, M1, hP, hn, hS, q⟩ := h
    have eb : ((10 : Int) ^ (30 : Int).toNat) = 1000000000000000000000000000000 := by decide +kernel
    have nofr : ∀ o u, H a ≠ some (.frz o u) := fun o u z => by
      obtain ⟨_, _, _, e, _⟩ := hP
      rw [e] at z; cases z
    refine ⟨_, (pss_cons (ps_set (i := 3) sc_law_cards.nd rfl (.inl rfl) (pe_ix ix_list (pe_lst (pa_cons (pe_call (ok_law_draw T) (hr.mono (by decide)) (by rfl) T.g_law_draw T.F_law_draw.kp T.b_law_draw .nil pass0 (pa_cons (pv 0) (pa_cons pe_int pa_nil))) (pa_cons (pe_call (ok_law_draw T) (hr.mono (by decide)) (by rfl) T.g_law_draw T.F_law_draw.kp T.b_law_draw .nil pass0 (pa_cons (pv 0) (pa_cons (pe_op op_add (pv 2) pe_int) pa_nil))) (pa_cons (pv 2) pa_nil)))) (pe_call (ok_law_draw T) (hr.mono (by decide)) (by rfl) T.g_law_draw T.F_law_draw.kp T.b_law_draw .nil pass0 (pa_cons (pv 0) (pa_cons pe_int pa_nil))) (fun _ _ => rfl)))
  (pss_cons (ps_par3 (i := 4) (j := 5) (l := 6) rfl sc_law_cards.nd rfl rfl rfl (by decide) (by decide) (by decide) rfl rfl rfl (pa_cons (pe_call (ok_law_draw T) (hr.mono (by decide)) (by rfl) T.g_law_draw T.F_law_draw.kp T.b_law_draw .nil pass0 (pa_cons (pv 0) (pa_cons pe_int pa_nil))) (pa_cons (pe_call (ok_law_height T) hr (by rfl) T.g_law_height T.F_law_height.kp T.b_law_height .nil pass0 (pa_cons (pv 0) pa_nil)) (pa_cons (pe_lst pa_nil) pa_nil))) (by rfl))
  (pss_cons (ps_for PassesOwn.never rfl (pi_range1 (by rfl) T.z_range (pa_cons (pe_ifExp (pt_cmpR (op_eqD hr.units) (pv 1) (pe_lst pa_nil) (nomark _)) pe_int (pv 3)) pa_nil)) (pg_name (i := 7) sc_law_cards.nd rfl (.inl rfl))
  (pss_cons (ps_set (i := 8) sc_law_cards.nd rfl (.inl rfl) (pe_lst (pa_cons (pe_op op_add pe_int (pe_call (ok_law_draw T) (hr.mono (by decide)) (by rfl) T.g_law_draw T.F_law_draw.kp T.b_law_draw .nil pass0 (pa_cons (pv 0) (pa_cons pe_int pa_nil)))) (pa_cons (pe_op op_add pe_int (pe_call (ok_law_draw T) (hr.mono (by decide)) (by rfl) T.g_law_draw T.F_law_draw.kp T.b_law_draw .nil pass0 (pa_cons (pv 0) (pa_cons (pe_op op_powW pe_int pe_int) pa_nil)))) (pa_cons (pv 5) (pa_cons (pe_call (ok_law_height T) hr (by rfl) T.g_law_height T.F_law_height.kp T.b_law_height .nil pass0 (pa_cons (pv 0) pa_nil)) pa_nil))))))
  (pss_one (ps_expr (pe_bm PySem.F.plainAttrs_list PySem.F.slot_list_append PySem.F.type_list_append mt_append (pv 6) (pa_cons (pe_ix ix_list (pv 8) (pv 4) (fun _ _ => rfl)) pa_nil))))))
  (pss_one (ps_ret (pv 6)))))), ?_⟩
    -- many
    refine ⟨.ref a, rfl, a, 9, n, rfl, hP, by omega, by decide, by decide, fun r1 H2 b2 p2 r10 r11 => ?_⟩
    refine ⟨.ref a, rfl, .int M, rfl, M, 1, rfl, rfl, a, (M : Int) + 1, _, rfl, p2, by omega, by omega, by omega, fun r2 H3 b3 p3 r20 r21 => ⟨.int M, rfl, (by show 3 ≤ sizeLine; decide), fun o3 n3 => ?_⟩⟩
    have s3 := same_new (H := H3) (p := o3) (.lst [.int r1, .int r2, .int M]) n3
    refine ⟨.ref a, rfl, a, 3, _, rfl, p3.same s3, by omega, by decide, by decide, fun r3 H4 b4 p4 r30 r31 => ?_⟩
    obtain ⟨m, em, m0, m1⟩ := pick_int (ns := [r1, r2, (M : Int)]) (lo := 0) (hi := (M : Int)) r30 r31 (fun z hz => by
      simp only [List.mem_cons, List.not_mem_nil, or_false] at hz
      rcases hz with rfl | rfl | rfl <;> omega)
    refine ⟨o3, _, _, .int m, rfl, rfl, SqL.of (b4 _ _ (p3.ne n3) upd_same), em, ?_⟩
    have B4 : But a H H4 := (b2.trans b3).trans ((But.of s3).trans b4)
    -- style, same, found
    refine ⟨.ref a, rfl, a, 4, _, rfl, p4, by omega, by decide, by decide, fun st H5 b5 p5 st0 st1 => ?_⟩
    refine ⟨.ref a, rfl, a, _, rfl, p5, by omega, fun x H6 b6 p6 x0 x1 => ⟨Nat.zero_le _, fun f nf => ⟨_, _, _, rfl, ?_⟩⟩⟩
    have sf := same_new (H := H6) (p := f) (.lst []) nf
    have B5 : But a H H6 := (B4.trans b5).trans b6
    have nfa : f ≠ a := p6.ne nf
    have nfH : H f = none := But.free B5 p6 nf
    have ef : (upd H6 f (.lst [])) f = some (.lst []) := upd_same
    have B6 : But a H (upd H6 f (.lst [])) := B5.trans (But.of sf)
    have p7 := p6.same sf
    generalize upd H6 f (.lst []) = H7 at ef B6 p7 ⊢
    refine ⟨.ref s, rfl, Nat.zero_le _, fun o no => ⟨_, _, .lst ((hS.but nofr (B6.trans (But.of (same_new _ no)))).sq) (dpInts ns), .lst (SqL.of upd_same) .nil, shapedInts ns, rfl, _, rfl, ?_⟩⟩
    generalize PyData.eqv _ _ = tt
    have so := same_new (H := H7) (p := o) (.lst []) no
    have ef8 := so _ _ ef
    have B8 := B6.trans (But.of so)
    have p8 := p7.same so
    generalize upd H7 o (.lst []) = H8 at ef8 B8 p8 ⊢
    refine ifx (c := 4) (m := m) rfl ?_
    have hN : ∃ N : Int, (if tt = true then (4 : Int) else m) = N ∧ 0 ≤ N ∧ N ≤ M := by
      cases tt
      · exact ⟨m, rfl, m0, m1⟩
      · exact ⟨4, rfl, by decide, by omega⟩
    obtain ⟨N, eN, N0, N1⟩ := hN
    rw [eN]
    refine ⟨N, rfl, by omega, by omega, ?_⟩
    refine for_range (lo := 0) (n := N.toNat) (fun i σ H' => ∃ y7 y8, σ = [some (.ref a), some (.ref s), some (.int M), some (.int m), some (.int st), some (.int x), some (.ref f), y7, y8] ∧ PvL a f H (n + 10) 1 i H')
        ⟨none, none, rfl, [], B8, p8.mono (by omega), ef8, rfl, fun b hb => by cases hb⟩ (fun i σ H' hi h => ?_) (fun σ H' h => ?_)
    · obtain ⟨y7, y8, rfl, bs, b0, p0, eF, l, al⟩ := h
      refine ⟨.ref a, rfl, a, 9, _, rfl, p0, by omega, by decide, by decide, fun t1 H9 b9 p9 t10 t11 => ⟨1, t1, rfl, rfl, ?_⟩⟩
      refine ⟨.ref a, rfl, 10, 30, rfl, rfl, ⟨by decide, by decide⟩, a, _, _, rfl, p9, by omega, by rw [eb]; decide, by rw [eb]; decide, fun t2 H10 b10 p10 t20 t21 => ⟨1, t2, rfl, rfl, ?_⟩⟩
      rw [eb] at t21
      refine ⟨.int x, rfl, .ref a, rfl, a, _, rfl, p10, by omega, fun t3 H11 b11 p11 t30 t31 => ⟨(by show 4 ≤ sizeLine; decide), fun o5 n5 => ?_⟩⟩
      have s5 := same_new (H := H11) (p := o5) (.lst [.int (1 + t1), .int (1 + t2), .int x, .int t3]) n5
      have e5 : (upd H11 o5 (.lst [.int (1 + t1), .int (1 + t2), .int x, .int t3])) o5 = some (.lst [.int (1 + t1), .int (1 + t2), .int x, .int t3]) := upd_same
      have B12 := ((b9.trans b10).trans b11).trans (But.of s5)
      have eF12 := B12 _ _ nfa eF
      have p12 := p11.same s5
      have x1' : x ≤ 1000000000000000000000000000000 := x1
      have t31' : t3 ≤ 1000000000000000000000000000000 := t31
      obtain ⟨y, ey, y0, y1⟩ := pick_int (ns := [1 + t1, 1 + t2, x, t3]) (lo := 1) (hi := 1000000000000000000000000000000) st0 st1 (fun z hz => by
        simp only [List.mem_cons, List.not_mem_nil, or_false] at hz
        rcases hz with rfl | rfl | rfl | rfl <;> omega)
      refine ⟨.ref f, rfl, .inl ⟨rfl, _, SqL.of eF12⟩, .ref o5, rfl, .int st, rfl, o5, _, _, .int y, rfl, rfl, SqL.of e5, ey, f, _, .int y, rfl, rfl, eF12, ?_, ?_⟩
      · rw [List.length_map, l]; exact small_of (m := 1000) (by omega) (by decide)
      · exact ⟨_, _, rfl, PvL.app bs b0 eF l al nfH nfa B12 (p12.mono (by omega)) y0 (le_big y1)⟩
    · obtain ⟨y7, y8, rfl, bs, b0, p0, eF, l, al⟩ := h
      exact ⟨.ref f, rfl, q f H' bs nfH b0 (p0.mono (by omega)) eF (by omega) ⟨by omega, al⟩⟩
end

section
variable {P : Program} {w : World} {K : PySem.W.Frag} {mg : Str → Option Value} {base : Heap}
/-! a change as the law tells it -/
inductive Ch where
  | ins (s : Nat) (x : Int)
  | rem (s : Nat) (x : Int)
  | mov (s t : Nat)
  | str (s : Nat) (x : Int)
  | exc (s : Nat) (x : Int)
def Ch.enc : Ch → List Int
  | .ins s x => [0, s, x]
  | .rem s x => [1, s, x]
  | .mov s t => [2, s, t]
  | .str s x => [3, s, x]
  | .exc s x => [4, s, x]
def Ch.ok (n : Nat) : Ch → Prop
  | .ins s x => s ≤ n ∧ n ≤ 199 ∧ 1 ≤ x ∧ x ≤ big
  | .rem s _ => s < n
  | .mov s t => s < n ∧ t < n
  | .str s x => s < n ∧ 1 ≤ x ∧ x ≤ big
  | .exc s _ => s + 1 < n
def Ch.eff (cs hs : List Int) : Ch → List Int
  | .ins s x => effIns cs hs s x
  | .rem s _ => effRem cs hs s
  | .mov s t => effMov cs hs s t (hs.getD s 0)
  | .str s x => effStr cs hs s x
  | .exc s _ => effExc cs hs s (hs.getD s 0)
theorem rRep_flag {H : Hp} {Q : VK} {l : Addr} {p : Bool} {xs : List V} (h : H l = some (.lst xs)) (hl : xs.length ≤ 3) (q : ∀ a, H a = none → Q (.ref a) (upd H a (.lst (if p = true then xs else [])))) :
    rRep (.ref l) (.int (if p = true then 1 else 0)) H Q := by
  have e : (List.replicate (if p = true then (1 : Int) else 0).toNat xs).flatten = if p = true then xs else [] := by cases p <;> simp
  refine ⟨l, _, xs, rfl, rfl, h, by cases p <;> decide, by cases p <;> decide, ?_, fun a na => ?_⟩
  · cases p
    · show xs.length * 0 ≤ sizeLine
      rw [Nat.mul_zero]; exact Nat.zero_le _
    · show xs.length * 1 ≤ sizeLine
      rw [Nat.mul_one]; exact small_le (m := 3) hl (by decide)
  · rw [e]; exact q a na
theorem flag_len (p : Bool) {xs : List V} (h : xs.length ≤ 3) : (if p = true then xs else []).length ≤ 3 := by
  cases p
  · exact Nat.zero_le _
  · exact h
def kd (n : Nat) : List Int := (if n < 200 then [0] else []) ++ (if 0 < n then [1, 2, 3] else []) ++ (if 1 < n then [4] else [])
theorem kd_eq (n : Nat) : ((if decide ((n : Int) < 200) = true then [V.int 0] else []) ++ (if decide ((0 : Int) < n) = true then [V.int 1, .int 2, .int 3] else []) ++ (if decide ((1 : Int) < n) = true then [V.int 4] else [])) = (kd n).map V.int := by
  have i1 : ((n : Int) < 200) = (n < 200) := propext (by omega)
  have i2 : ((0 : Int) < n) = (0 < n) := propext (by omega)
  have i3 : ((1 : Int) < n) = (1 < n) := propext (by omega)
  unfold kd
  by_cases h1 : n < 200 <;> by_cases h2 : 0 < n <;> by_cases h3 : 1 < n <;> simp only [decide_eq_true_eq, i1, i2, i3, h1, h2, h3, if_true, if_false] <;> rfl
theorem kd_len (n : Nat) : 1 ≤ (kd n).length ∧ (kd n).length ≤ 9 := by
  unfold kd
  by_cases h1 : n < 200 <;> by_cases h2 : 0 < n <;> by_cases h3 : 1 < n
  all_goals simp [h1, h2, h3]
  all_goals omega
theorem kd_mem {n : Nat} {k : Int} (h : k ∈ kd n) : (k = 0 ∧ n < 200) ∨ (k = 1 ∧ 0 < n) ∨ (k = 2 ∧ 0 < n) ∨ (k = 3 ∧ 0 < n) ∨ (k = 4 ∧ 1 < n) := by
  unfold kd at h
  rcases List.mem_append.mp h with h | h
  · rcases List.mem_append.mp h with h | h
    · split at h
      · simp at h; exact .inl ⟨h, by assumption⟩
      · cases h
    · split at h
      · simp at h
        rcases h with h | h | h
        · exact .inr (.inl ⟨h, by assumption⟩)
        · exact .inr (.inr (.inl ⟨h, by assumption⟩))
        · exact .inr (.inr (.inr (.inl ⟨h, by assumption⟩)))
      · cases h
  · split at h
    · simp at h; exact .inr (.inr (.inr (.inr ⟨h, by assumption⟩)))
    · cases h
theorem kd_pick {n : Nat} {k : Int} (g : k ∈ kd n) (hn : n ≤ 200) : ∃ d : Int, atI [V.int 1, .int 0, .int 0, .int 0, .int (-1)] k = some (.int d) ∧ 1 ≤ (n : Int) + d ∧ (n : Int) + d ≤ 300 ∧
    ((k = 0 ∧ d = 1 ∧ n < 200) ∨ (k = 1 ∧ d = 0) ∨ (k = 2 ∧ d = 0) ∨ (k = 3 ∧ d = 0) ∨ (k = 4 ∧ d = -1)) := by
  rcases kd_mem g with ⟨rfl, h⟩ | ⟨rfl, h⟩ | ⟨rfl, h⟩ | ⟨rfl, h⟩ | ⟨rfl, h⟩
  · exact ⟨1, rfl, by omega, by omega, .inl ⟨rfl, rfl, h⟩⟩
  · exact ⟨0, rfl, by omega, by omega, .inr (.inl ⟨rfl, rfl⟩)⟩
  · exact ⟨0, rfl, by omega, by omega, .inr (.inr (.inl ⟨rfl, rfl⟩))⟩
  · exact ⟨0, rfl, by omega, by omega, .inr (.inr (.inr (.inl ⟨rfl, rfl⟩)))⟩
  · exact ⟨-1, rfl, by omega, by omega, .inr (.inr (.inr (.inr ⟨rfl, rfl⟩)))⟩
def spChange : Sp := fun vs H Q _ => ∃ (a b : Addr) (n : Int) (hs : List Int), vs = [.ref a, .ref b] ∧ Src H a n ∧ n ≤ 900000 ∧ H b = some (.lst (hs.map V.int)) ∧ hs.length ≤ 200 ∧
  ∀ p H' (ch : Ch), H p = none → But a H H' → Src H' a (n + 10) → H' p = some (.lst (ch.enc.map V.int)) → ch.ok hs.length → Q (.ref p) H'
theorem ok_law_change (T : Txt K mg) : FnOk P w K mg base CX0 3 T.a_law_change T.d_law_change ["source", "cards"] spChange := by
  refine T.F_law_change.ok sc_law_change (fun vs H Q E h => ?_) (fun cdv A outer s H vs Q E hr h => ?_)
  · obtain ⟨a, b, n, hs, rfl, _⟩ := h; rfl
  · obtain ⟨a, b, n, hs, rfl, hP, hn, hB, hl, q⟩ := h
    refine ⟨_, (pss_cons (ps_set (i := 2) sc_law_change.nd rfl (.inl rfl) (pe_callB call_len_seq (by rfl) T.z_len (by decide +kernel) (pa_cons (pv 1) pa_nil)))
  (pss_cons (ps_set (i := 3) sc_law_change.nd rfl (.inl rfl) (pe_op op_cat (pe_op op_cat (pe_op op_rep (pe_lst (pa_cons pe_int pa_nil)) (pe_callTy call_int1 (by rfl) T.z_int (by decide +kernel) (pa_cons (pe_cmpR op_lt (pv 2) pe_int (nomark _)) pa_nil))) (pe_op op_rep (pe_lst (pa_cons pe_int (pa_cons pe_int (pa_cons pe_int pa_nil)))) (pe_callTy call_int1 (by rfl) T.z_int (by decide +kernel) (pa_cons (pe_cmpR op_gt (pv 2) pe_int (nomark _)) pa_nil)))) (pe_op op_rep (pe_lst (pa_cons pe_int pa_nil)) (pe_callTy call_int1 (by rfl) T.z_int (by decide +kernel) (pa_cons (pe_cmpR op_gt (pv 2) pe_int (nomark _)) pa_nil)))))
  (pss_cons (ps_set (i := 4) sc_law_change.nd rfl (.inl rfl) (pe_ix ix_list (pv 3) (pe_call (ok_law_draw T) (hr.mono (by decide)) (by rfl) T.g_law_draw T.F_law_draw.kp T.b_law_draw .nil pass0 (pa_cons (pv 0) (pa_cons (pe_callB call_len_seq (by rfl) T.z_len (by decide +kernel) (pa_cons (pv 3) pa_nil)) pa_nil))) (fun _ _ => rfl)))
  (pss_cons (ps_set (i := 5) sc_law_change.nd rfl (.inl rfl) (pe_call (ok_law_draw T) (hr.mono (by decide)) (by rfl) T.g_law_draw T.F_law_draw.kp T.b_law_draw .nil pass0 (pa_cons (pv 0) (pa_cons (pe_op op_add (pv 2) (pe_ix ix_list (pe_lst (pa_cons pe_int (pa_cons pe_int (pa_cons pe_int (pa_cons pe_int (pa_cons (pe_un un_neg pe_int) pa_nil)))))) (pv 4) (fun _ _ => rfl))) pa_nil))))
  (pss_cons (ps_if (pt_cmpR op_eq (pv 4) pe_int (nomark _))
  (pss_one (ps_ret (pe_lst (pa_cons (pv 4) (pa_cons (pv 5) (pa_cons (pe_call (ok_law_draw T) (hr.mono (by decide)) (by rfl) T.g_law_draw T.F_law_draw.kp T.b_law_draw .nil pass0 (pa_cons (pv 0) (pa_cons (pv 2) pa_nil))) pa_nil))))))
  pss_nil)
  (pss_one (ps_ret (pe_lst (pa_cons (pv 4) (pa_cons (pv 5) (pa_cons (pe_call (ok_law_height T) hr (by rfl) T.g_law_height T.F_law_height.kp T.b_law_height .nil pass0 (pa_cons (pv 0) pa_nil)) pa_nil))))))))))), ?_⟩
    refine ⟨.ref b, rfl, b, _, rfl, .inl (SqL.of hB), ?_⟩
    rw [List.length_map]
    refine ⟨(by show 1 ≤ sizeLine; decide), fun l1 n1 => ⟨.int hs.length, rfl, hs.length, 200, rfl, rfl, .inr ⟨_, rfl, rRep_flag (xs := [.int 0]) upd_same (by decide) fun l2 n2 => ?_⟩⟩⟩
    have s1 := (same_new (H := H) (p := l1) (.lst [.int 0]) n1).trans (same_new (.lst (if decide ((hs.length : Int) < 200) = true then [.int 0] else [])) n2)
    have e2 : (upd (upd H l1 (.lst [.int 0])) l2 (.lst (if decide ((hs.length : Int) < 200) = true then [.int 0] else []))) l2 = some (.lst (if decide ((hs.length : Int) < 200) = true then [.int 0] else [])) := upd_same
    generalize upd (upd H l1 (.lst [.int 0])) l2 (.lst (if decide ((hs.length : Int) < 200) = true then [.int 0] else [])) = H2 at s1 e2 ⊢
    refine ⟨(by show 3 ≤ sizeLine; decide), fun l3 n3 => ⟨.int hs.length, rfl, hs.length, 0, rfl, rfl, .inr ⟨_, rfl, rRep_flag (xs := [.int 1, .int 2, .int 3]) upd_same (by decide) fun l4 n4 => ?_⟩⟩⟩
    have s2 := (same_new (H := H2) (p := l3) (.lst [.int 1, .int 2, .int 3]) n3).trans (same_new (.lst (if decide ((0 : Int) < hs.length) = true then [.int 1, .int 2, .int 3] else [])) n4)
    have e4 : (upd (upd H2 l3 (.lst [.int 1, .int 2, .int 3])) l4 (.lst (if decide ((0 : Int) < hs.length) = true then [.int 1, .int 2, .int 3] else []))) l4 = some (.lst (if decide ((0 : Int) < hs.length) = true then [.int 1, .int 2, .int 3] else [])) := upd_same
    have e24 := s2 _ _ e2
    generalize upd (upd H2 l3 (.lst [.int 1, .int 2, .int 3])) l4 (.lst (if decide ((0 : Int) < hs.length) = true then [.int 1, .int 2, .int 3] else [])) = H4 at s2 e4 e24 ⊢
    have g1 := flag_len (decide ((hs.length : Int) < 200)) (xs := [.int 0]) (by decide)
    have g2 := flag_len (decide ((0 : Int) < hs.length)) (xs := [.int 1, .int 2, .int 3]) (by decide)
    have g3 := flag_len (decide ((1 : Int) < hs.length)) (xs := [.int 4]) (by decide)
    refine ⟨l2, l4, _, _, rfl, rfl, e24, e4, small_le (m := 9) (by omega) (by decide), fun l5 n5 => ?_⟩
    have s3 := same_new (H := H4) (p := l5) (.lst ((if decide ((hs.length : Int) < 200) = true then [.int 0] else []) ++ (if decide ((0 : Int) < hs.length) = true then [.int 1, .int 2, .int 3] else []))) n5
    have e5 : (upd H4 l5 (.lst ((if decide ((hs.length : Int) < 200) = true then [.int 0] else []) ++ (if decide ((0 : Int) < hs.length) = true then [.int 1, .int 2, .int 3] else [])))) l5 = some (.lst ((if decide ((hs.length : Int) < 200) = true then [.int 0] else []) ++ (if decide ((0 : Int) < hs.length) = true then [.int 1, .int 2, .int 3] else []))) := upd_same
    generalize upd H4 l5 (.lst ((if decide ((hs.length : Int) < 200) = true then [.int 0] else []) ++ (if decide ((0 : Int) < hs.length) = true then [.int 1, .int 2, .int 3] else []))) = H5 at s3 e5 ⊢
    refine ⟨(by show 1 ≤ sizeLine; decide), fun l6 n6 => ⟨.int hs.length, rfl, hs.length, 1, rfl, rfl, .inr ⟨_, rfl, rRep_flag (xs := [.int 4]) upd_same (by decide) fun l7 n7 => ?_⟩⟩⟩
    have s4 := (same_new (H := H5) (p := l6) (.lst [.int 4]) n6).trans (same_new (.lst (if decide ((1 : Int) < hs.length) = true then [.int 4] else [])) n7)
    have e7 : (upd (upd H5 l6 (.lst [.int 4])) l7 (.lst (if decide ((1 : Int) < hs.length) = true then [.int 4] else []))) l7 = some (.lst (if decide ((1 : Int) < hs.length) = true then [.int 4] else [])) := upd_same
    have e57 := s4 _ _ e5
    generalize upd (upd H5 l6 (.lst [.int 4])) l7 (.lst (if decide ((1 : Int) < hs.length) = true then [.int 4] else [])) = H7 at s4 e7 e57 ⊢
    refine ⟨l5, l7, _, _, rfl, rfl, e57, e7, small_le (m := 9) (by rw [List.length_append]; omega) (by decide), fun l8 n8 => ?_⟩
    rw [kd_eq]
    have s5 := same_new (H := H7) (p := l8) (.lst ((kd hs.length).map V.int)) n8
    have e8 : (upd H7 l8 (.lst ((kd hs.length).map V.int))) l8 = some (.lst ((kd hs.length).map V.int)) := upd_same
    have S8 := (((s1.trans s2).trans s3).trans s4).trans s5
    have P8 := hP.same S8
    have nl8 : l8 ≠ a := (hP.same (((s1.trans s2).trans s3).trans s4)).ne n8
    generalize upd H7 l8 (.lst ((kd hs.length).map V.int)) = H8 at S8 P8 e8 ⊢
    have kl := kd_len hs.length
    -- kind
    refine ⟨.ref l8, rfl, .ref a, rfl, .ref l8, rfl, l8, _, rfl, .inl (SqL.of e8), a, _, n, rfl, P8, by omega, by rw [List.length_map]; omega, by rw [List.length_map]; omega, fun r1 H9 b9 P9 r10 r11 => ?_⟩
    rw [List.length_map] at r11
    obtain ⟨kv, hkv, ek⟩ := atI_pick (xs := (kd hs.length).map V.int) (r := r1) r10 (by rw [List.length_map]; exact r11)
    obtain ⟨k, hk, rfl⟩ := List.mem_map.mp hkv
    refine ⟨l8, _, _, .int k, rfl, rfl, SqL.of (b9 _ _ nl8 e8), ek, ?_⟩
    obtain ⟨d, ed, d1, d2, dd⟩ := kd_pick hk hl
    have B9 : But a H H9 := (But.of S8).trans b9
    -- spot
    refine ⟨.ref a, rfl, .int hs.length, rfl, 1, rfl, (by show 5 ≤ sizeLine; decide), fun l9 n9 => ⟨.int k, rfl, l9, _, k, .int d, rfl, rfl, SqL.of upd_same, ed, hs.length, d, rfl, rfl, a, _, _, rfl, P9.same (same_new _ n9), by omega, d1, by omega, fun sp H10 b10 P10 sp0 sp1 => ?_⟩⟩
    have B10 : But a H H10 := B9.trans ((But.of (same_new _ n9)).trans b10)
    obtain ⟨s, rfl⟩ := Int.eq_ofNat_of_zero_le sp0
    have tail : ∀ (ch : Int → Ch), k ≠ 2 → (∀ x, (ch x).enc = [k, s, x]) → (∀ x, 1 ≤ x → x ≤ big → (ch x).ok hs.length) → tIfS (tTest (tOp rEq (tVar 4) (tC (V.int 2)))) (tRet (tLst (tCons (tVar 4) (tCons (tVar 5) (tCons (tCall spDraw [] E0 (tCons (tVar 0) (tCons (tVar 2) tNil))) tNil))))) tNext
        { nx := fun σ H' => tRet (tLst (tCons (tVar 4) (tCons (tVar 5) (tCons (tCall spHeight [] E0 (tCons (tVar 0) tNil)) tNil)))) { nx := fun x H' => Q V.non H', rt := Q } σ H', rt := Q } [some (.ref a), some (.ref b), some (.int hs.length), some (.ref l8), some (.int k), some (.int s)] H10 := fun ch hk2 he ho => by
      refine ⟨.int k, rfl, rfl, _, rfl, ite_f (fun h => hk2 (V.int.inj (of_decide_eq_true h))) ⟨.int k, rfl, .int s, rfl, .ref a, rfl, a, _, rfl, P10, by omega, fun x H11 b11 P11 x0 x1 => ⟨(by show 3 ≤ sizeLine; decide), fun p np => ?_⟩⟩⟩
      have B11 := B10.trans b11
      refine q p _ (ch x) (But.free B11 P11 np) (B11.trans (But.of (same_new _ np))) ((P11.same (same_new _ np)).mono (by omega)) ?_ (ho x x0 x1)
      rw [upd_same, he]; rfl
    rcases dd with ⟨rfl, rfl, hd⟩ | ⟨rfl, rfl⟩ | ⟨rfl, rfl⟩ | ⟨rfl, rfl⟩ | ⟨rfl, rfl⟩
    · exact tail (fun x => .ins s x) (by decide) (fun x => rfl) (fun x h0 h1 => ⟨by omega, by omega, h0, h1⟩)
    · exact tail (fun x => .rem s x) (by decide) (fun x => rfl) (fun x h0 h1 => by show s < hs.length; omega)
    · refine ⟨.int 2, rfl, rfl, _, rfl, ite_t (by decide) ⟨.int 2, rfl, .int s, rfl, .ref a, rfl, .int hs.length, rfl, a, _, _, rfl, P10, by omega, by omega, by omega, fun y H11 b11 P11 y0 y1 => ⟨(by show 3 ≤ sizeLine; decide), fun p np => ?_⟩⟩⟩
      obtain ⟨t, rfl⟩ := Int.eq_ofNat_of_zero_le y0
      have B11 := B10.trans b11
      exact q p _ (.mov s t) (But.free B11 P11 np) (B11.trans (But.of (same_new _ np))) ((P11.same (same_new _ np)).mono (by omega)) upd_same ⟨by omega, by omega⟩
    · exact tail (fun x => .str s x) (by decide) (fun x => rfl) (fun x h0 h1 => ⟨by omega, h0, h1⟩)
    · exact tail (fun x => .exc s x) (by decide) (fun x => rfl) (fun x h0 h1 => by show s + 1 < hs.length; omega)
def spTold (K : PySem.W.Frag) : Sp := fun vs H Q _ => ∃ (a b c : Addr) (cs hs : List Int) (ch : Ch), vs = [.ref a, .ref b, .ref c] ∧ SqL K H a (cs.map V.int) ∧ SqL K H b (hs.map V.int) ∧ H c = some (.lst (ch.enc.map V.int)) ∧ IsStart cs ∧ IsCards hs ∧ ch.ok hs.length ∧
  ∀ H' p, Same H H' → H p = none → H' p = some (.lst ((ch.eff cs hs).map V.int)) → Q (.ref p) H'
theorem ok_law_told (T : Txt K mg) : FnOk P w K mg base CX0 8 T.a_law_told T.d_law_told ["start", "cards", "change"] (spTold K) := by
  refine T.F_law_told.ok sc_law_told (fun vs H Q E h => ?_) (fun cdv A outer s H vs Q E hr h => ?_)
  · obtain ⟨a, b, c, cs, hs, ch, rfl, _⟩ := h; rfl
  · obtain ⟨a, b, c, cs, hs, ch, rfl, hA, hB, hC, st, cd, ok, q⟩ := h
    refine ⟨_, (pss_cons (ps_asg (pv 2) (pg_unl rfl (pgs_cons (pg_name (i := 3) sc_law_told.nd rfl (.inl rfl)) (pgs_cons (pg_name (i := 4) sc_law_told.nd rfl (.inl rfl)) (pgs_cons (pg_name (i := 5) sc_law_told.nd rfl (.inl rfl)) pgs_nil)))))
  (pss_cons (ps_if (pt_cmpR op_eq (pv 3) pe_int (nomark _))
  (pss_one (ps_ret (pe_call (ok_effect_of_insert T) hr (by rfl) T.g_effect_of_insert T.F_effect_of_insert.kp T.b_effect_of_insert .nil pass0 (pa_cons (pv 0) (pa_cons (pv 1) (pa_cons (pv 4) (pa_cons (pv 5) pa_nil)))))))
  pss_nil)
  (pss_cons (ps_if (pt_cmpR op_eq (pv 3) pe_int (nomark _))
  (pss_one (ps_ret (pe_call (ok_effect_of_move T) hr (by rfl) T.g_effect_of_move T.F_effect_of_move.kp T.b_effect_of_move .nil pass0 (pa_cons (pv 0) (pa_cons (pv 1) (pa_cons (pv 4) (pa_cons (pv 5) pa_nil)))))))
  pss_nil)
  (pss_cons (ps_if (pt_cmpR op_eq (pv 3) pe_int (nomark _))
  (pss_one (ps_ret (pe_call (ok_effect_of_stretch T) hr (by rfl) T.g_effect_of_stretch T.F_effect_of_stretch.kp T.b_effect_of_stretch .nil pass0 (pa_cons (pv 0) (pa_cons (pv 1) (pa_cons (pv 4) (pa_cons (pv 5) pa_nil)))))))
  pss_nil)
  (pss_cons (ps_if (pt_cmpR op_eq (pv 3) pe_int (nomark _))
  (pss_one (ps_ret (pe_call (ok_effect_of_remove T) hr (by rfl) T.g_effect_of_remove T.F_effect_of_remove.kp T.b_effect_of_remove .nil pass0 (pa_cons (pv 0) (pa_cons (pv 1) (pa_cons (pv 4) pa_nil))))))
  pss_nil)
  (pss_one (ps_ret (pe_call (ok_effect_of_exchange T) hr (by rfl) T.g_effect_of_exchange T.F_effect_of_exchange.kp T.b_effect_of_exchange .nil pass0 (pa_cons (pv 0) (pa_cons (pv 1) (pa_cons (pv 4) pa_nil))))))))))), ?_⟩
    cases ch with
    | ins s x =>
      refine ⟨.ref c, rfl, c, _, rfl, SqL.of hC, rfl, _, [_, _], rfl, _, [_], rfl, _, [], rfl, rfl, ?_⟩
      refine ⟨.int 0, rfl, rfl, _, rfl, ite_t (by decide) ⟨.ref a, rfl, .ref b, rfl, .int s, rfl, .int x, rfl, a, b, s, x, cs, hs, rfl, hA, hB, st, cd, ok.2.1, ok.1, ok.2.2.1, ok.2.2.2, q⟩⟩
    | rem s x =>
      refine ⟨.ref c, rfl, c, _, rfl, SqL.of hC, rfl, _, [_, _], rfl, _, [_], rfl, _, [], rfl, rfl, ?_⟩
      refine ⟨.int 1, rfl, rfl, _, rfl, ite_f (by decide) ⟨.int 1, rfl, rfl, _, rfl, ite_f (by decide) ⟨.int 1, rfl, rfl, _, rfl, ite_f (by decide) ⟨.int 1, rfl, rfl, _, rfl, ite_t (by decide) ⟨.ref a, rfl, .ref b, rfl, .int s, rfl, a, b, s, cs, hs, rfl, hA, hB, st, cd, ok, q⟩⟩⟩⟩⟩
    | mov s t =>
      refine ⟨.ref c, rfl, c, _, rfl, SqL.of hC, rfl, _, [_, _], rfl, _, [_], rfl, _, [], rfl, rfl, ?_⟩
      refine ⟨.int 2, rfl, rfl, _, rfl, ite_f (by decide) ⟨.int 2, rfl, rfl, _, rfl, ite_t (by decide) ⟨.ref a, rfl, .ref b, rfl, .int s, rfl, .int t, rfl, a, b, s, t, _, cs, hs, rfl, hA, hB, st, cd, ?_, ok.2, q⟩⟩⟩
      rw [List.getD_eq_getElem?_getD, List.getElem?_eq_getElem ok.1]; rfl
    | str s x =>
      refine ⟨.ref c, rfl, c, _, rfl, SqL.of hC, rfl, _, [_, _], rfl, _, [_], rfl, _, [], rfl, rfl, ?_⟩
      refine ⟨.int 3, rfl, rfl, _, rfl, ite_f (by decide) ⟨.int 3, rfl, rfl, _, rfl, ite_f (by decide) ⟨.int 3, rfl, rfl, _, rfl, ite_t (by decide) ⟨.ref a, rfl, .ref b, rfl, .int s, rfl, .int x, rfl, a, b, s, x, cs, hs, rfl, hA, hB, st, cd, ok.1, ok.2.1, ok.2.2, q⟩⟩⟩⟩
    | exc s x =>
      refine ⟨.ref c, rfl, c, _, rfl, SqL.of hC, rfl, _, [_, _], rfl, _, [_], rfl, _, [], rfl, rfl, ?_⟩
      have ok' : s + 1 < hs.length := ok
      refine ⟨.int 4, rfl, rfl, _, rfl, ite_f (by decide) ⟨.int 4, rfl, rfl, _, rfl, ite_f (by decide) ⟨.int 4, rfl, rfl, _, rfl, ite_f (by decide) ⟨.int 4, rfl, rfl, _, rfl, ite_f (by decide) ⟨.ref a, rfl, .ref b, rfl, .int s, rfl, a, b, s, _, cs, hs, rfl, hA, hB, st, cd, ?_, ok', q⟩⟩⟩⟩⟩
      rw [List.getD_eq_getElem?_getD, List.getElem?_eq_getElem (by omega)]; rfl
end

section
variable {P : Program} {w : World} {K : PySem.W.Frag} {mg : Str → Option Value} {base : Heap}
def Ch.kind : Ch → Int
  | .ins .. => 0
  | .rem .. => 1
  | .mov .. => 2
  | .str .. => 3
  | .exc .. => 4
def Ch.spot : Ch → Nat
  | .ins s _ => s
  | .rem s _ => s
  | .mov s _ => s
  | .str s _ => s
  | .exc s _ => s
def Ch.other : Ch → Int
  | .ins _ x => x
  | .rem _ x => x
  | .mov _ t => t
  | .str _ x => x
  | .exc _ x => x
theorem Ch.enc_eq (c : Ch) : c.enc = [c.kind, c.spot, c.other] := by cases c <;> rfl
def Ch.later (hs : List Int) : Ch → List Int
  | .ins s x => insAt hs s x
  | .rem s _ => delAt hs s
  | .mov s t => insAt (delAt hs s) t (hs.getD s 0)
  | .str s x => insAt (delAt hs s) s x
  | .exc s _ => insAt (delAt hs s) (s + 1) (hs.getD s 0)
def Ch.gone : Ch → Option Nat
  | .rem s _ => some s
  | .mov s _ => some s
  | _ => none
def Ch.new : Ch → Option Nat
  | .ins s _ => some s
  | .mov _ t => some t
  | _ => none
def gV : Option Nat → V
  | none => .non
  | some s => .int (s : Int)
def delO : Option Nat → List Int → List Int
  | none, l => l
  | some s, l => delAt l s
theorem eff_due (cs hs : List Int) (c : Ch) : c.eff cs hs = grow (delO c.gone (tops cs hs)) (delO c.new (tops cs (c.later hs))) := by cases c <;> rfl
theorem gat {hs : List Int} {i : Nat} (h : i < hs.length) : hs[i]? = some (hs.getD i 0) := by
  rw [List.getD_eq_getElem?_getD, List.getElem?_eq_getElem h]
  rfl
theorem later_str {hs : List Int} {s : Nat} {x : Int} (h : s < hs.length) : insAt (delAt hs s) s x = hs.take s ++ [x] ++ hs.drop (s + 1) := by
  have e : (hs.take s).length = s := by rw [List.length_take]; omega
  unfold insAt delAt
  rw [List.take_append_of_le_length (by omega), List.take_of_length_le (by omega), List.drop_append_of_le_length (by omega), List.drop_of_length_le (by omega), List.nil_append]
theorem later_exc {hs : List Int} {s : Nat} {x y : Int} (h : hs[s + 1]? = some y) : insAt (delAt hs s) (s + 1) x = hs.take s ++ [y, x] ++ hs.drop (s + 2) := by
  have hl : s + 1 < hs.length := (List.getElem?_eq_some_iff.mp h).1
  have e1 : s + 1 - (hs.take s).length = 1 := by rw [List.length_take]; omega
  have ey : hs[s + 1] = y := by rw [List.getElem?_eq_getElem hl] at h; exact Option.some.inj h
  have d : delAt hs s = hs.take s ++ y :: hs.drop (s + 2) := by unfold delAt; rw [List.drop_eq_getElem_cons hl, ey]
  unfold insAt
  rw [d, List.take_append, List.drop_append, e1, List.take_of_length_le (l := hs.take s) (by rw [List.length_take]; omega), List.drop_of_length_le (l := hs.take s) (by rw [List.length_take]; omega)]
  simp
def spEdited (K : PySem.W.Frag) : Sp := fun vs H Q _ => ∃ (b : Addr) (hs : List Int) (c : Ch), vs = [.int c.kind, .ref b, .int c.spot, .int c.other] ∧ SqL K H b (hs.map V.int) ∧ hs.length ≤ 1000 ∧ c.ok hs.length ∧
  ∀ H' t l, Same H H' → H l = none → H' t = some (.tup [.ref l, gV c.gone, gV c.new]) → H' l = some (.lst ((c.later hs).map V.int)) → Q (.ref t) H'
theorem ok_law_edited (T : Txt K mg) : FnOk P w K mg base CX0 1 T.a_law_edited T.d_law_edited ["kind", "cards", "spot", "other"] (spEdited K) := by
  refine T.F_law_edited.ok sc_law_edited (fun vs H Q E h => ?_) (fun cdv A outer s0 H vs Q E hr h => ?_)
  · obtain ⟨b, hs, c, rfl, _⟩ := h; rfl
  · obtain ⟨b, hs, c, rfl, hB, hl, ok, q⟩ := h
    have hat : ∀ {i : Nat}, i < hs.length → atI (hs.map V.int) (i : Int) = some (.int (hs.getD i 0)) := fun hi => atI_nat (by rw [List.getElem?_map, gat hi]; rfl)
    have hmx : ∀ (l : List V), l.length ≤ 3000 → l.length ≤ sizeLine := fun l h => small_le (m := 3000) h (by decide)
    refine ⟨_, (pss_cons (ps_if (pt_cmpR op_eq (pv 0) pe_int (nomark _))
  (pss_one (ps_ret (pe_tup (pa_cons (pe_op op_cat (pe_op op_cat (pe_slice sl_list (pv 1) po_none (po_some (pv 2))) (pe_lst (pa_cons (pv 3) pa_nil))) (pe_slice sl_list (pv 1) (po_some (pv 2)) po_none)) (pa_cons pe_non (pa_cons (pv 2) pa_nil))))))
  pss_nil)
  (pss_cons (ps_if (pt_cmpR op_eq (pv 0) pe_int (nomark _))
  (pss_one (ps_ret (pe_tup (pa_cons (pe_op op_cat (pe_op op_cat (pe_slice sl_list (pv 1) po_none (po_some (pv 2))) (pe_lst (pa_cons (pv 3) pa_nil))) (pe_slice sl_list (pv 1) (po_some (pe_op op_add (pv 2) pe_int)) po_none)) (pa_cons pe_non (pa_cons pe_non pa_nil))))))
  pss_nil)
  (pss_cons (ps_set (i := 4) sc_law_edited.nd rfl (.inl rfl) (pe_op op_cat (pe_slice sl_list (pv 1) po_none (po_some (pv 2))) (pe_slice sl_list (pv 1) (po_some (pe_op op_add (pv 2) pe_int)) po_none)))
  (pss_cons (ps_if (pt_cmpR op_eq (pv 0) pe_int (nomark _))
  (pss_one (ps_ret (pe_tup (pa_cons (pv 4) (pa_cons (pv 2) (pa_cons pe_non pa_nil))))))
  pss_nil)
  (pss_cons (ps_if (pt_cmpR op_eq (pv 0) pe_int (nomark _))
  (pss_one (ps_ret (pe_tup (pa_cons (pe_op op_cat (pe_op op_cat (pe_slice sl_list (pv 4) po_none (po_some (pv 3))) (pe_lst (pa_cons (pe_ix ix_list (pv 1) (pv 2) (fun _ _ => rfl)) pa_nil))) (pe_slice sl_list (pv 4) (po_some (pv 3)) po_none)) (pa_cons (pv 2) (pa_cons (pv 3) pa_nil))))))
  pss_nil)
  (pss_cons (ps_set (i := 5) sc_law_edited.nd rfl (.inl rfl) (pe_lst (pa_cons (pe_ix ix_list (pv 1) (pe_op op_add (pv 2) pe_int) (fun _ _ => rfl)) (pa_cons (pe_ix ix_list (pv 1) (pv 2) (fun _ _ => rfl)) pa_nil))))
  (pss_one (ps_ret (pe_tup (pa_cons (pe_op op_cat (pe_op op_cat (pe_slice sl_list (pv 1) po_none (po_some (pv 2))) (pv 5)) (pe_slice sl_list (pv 1) (po_some (pe_op op_add (pv 2) pe_int)) po_none)) (pa_cons pe_non (pa_cons pe_non pa_nil)))))))))))), ?_⟩
    cases c with
    | ins s x =>
      have i1 : s ≤ hs.length := ok.1
      refine ⟨.int 0, rfl, rfl, _, rfl, ite_t (by decide) ?_⟩
      refine ⟨.ref b, rfl, .int s, rfl, s, rfl, b, _, rfl, hB, fun p1 n1 => ⟨.int x, rfl, (by show 1 ≤ sizeLine; decide), fun p2 n2 => ?_⟩⟩
      rw [cut_to i1] at *
      refine ⟨p1, p2, _, _, rfl, rfl, same_new _ n2 _ _ upd_same, upd_same, small_le (m := 2000) (by rw [List.length_map, List.length_take]; simp only [List.length_cons, List.length_nil]; omega) (by decide), fun p3 n3 => ?_⟩
      have s3 := ((same_new (H := H) (p := p1) (.lst ((hs.take s).map V.int)) n1).trans (same_new (.lst [.int x]) n2)).trans (same_new (.lst ((hs.take s).map V.int ++ [.int x])) n3)
      refine ⟨.ref b, rfl, .int s, rfl, s, rfl, b, _, rfl, s3.seq hB, fun p4 n4 => ?_⟩
      rw [cut_from i1] at *
      have s4 := s3.trans (same_new (.lst ((hs.drop s).map V.int)) n4)
      refine ⟨p3, p4, _, _, rfl, rfl, same_new _ n4 _ _ upd_same, upd_same, small_le (m := 3000) (by rw [List.length_append, List.length_map, List.length_take, List.length_map, List.length_drop]; simp only [List.length_cons, List.length_nil]; omega) (by decide), fun p5 n5 => ?_⟩
      refine ⟨.int s, rfl, (by show 3 ≤ sizeLine; decide), fun t nt => ?_⟩
      refine q _ t p5 ((same_lay s4 n5).trans (same_new _ nt)) (s4.free n5) upd_same (same_new _ nt _ _ ?_)
      rw [upd_same]
      show some (HO.lst _) = some (HO.lst ((hs.take s ++ [x] ++ hs.drop s).map V.int))
      rw [List.map_append, List.map_append]
      rfl
    | str s x =>
      have i1 : s < hs.length := ok.1
      refine ⟨.int 3, rfl, rfl, _, rfl, ite_f (by decide) ⟨.int 3, rfl, rfl, _, rfl, ite_t (by decide) ?_⟩⟩
      refine ⟨.ref b, rfl, .int s, rfl, s, rfl, b, _, rfl, hB, fun p1 n1 => ⟨.int x, rfl, (by show 1 ≤ sizeLine; decide), fun p2 n2 => ?_⟩⟩
      rw [cut_to (Nat.le_of_lt i1)] at *
      refine ⟨p1, p2, _, _, rfl, rfl, same_new _ n2 _ _ upd_same, upd_same, small_le (m := 2000) (by rw [List.length_map, List.length_take]; simp only [List.length_cons, List.length_nil]; omega) (by decide), fun p3 n3 => ?_⟩
      have s3 := ((same_new (H := H) (p := p1) (.lst ((hs.take s).map V.int)) n1).trans (same_new (.lst [.int x]) n2)).trans (same_new (.lst ((hs.take s).map V.int ++ [.int x])) n3)
      refine ⟨.ref b, rfl, .int s, rfl, s, 1, rfl, rfl, ((s + 1 : Nat) : Int), rfl, b, _, rfl, s3.seq hB, fun p4 n4 => ?_⟩
      rw [cut_from i1] at *
      have s4 := s3.trans (same_new (.lst ((hs.drop (s + 1)).map V.int)) n4)
      refine ⟨p3, p4, _, _, rfl, rfl, same_new _ n4 _ _ upd_same, upd_same, small_le (m := 3000) (by rw [List.length_append, List.length_map, List.length_take, List.length_map, List.length_drop]; simp only [List.length_cons, List.length_nil]; omega) (by decide), fun p5 n5 => ?_⟩
      refine ⟨(by show 3 ≤ sizeLine; decide), fun t nt => ?_⟩
      refine q _ t p5 ((same_lay s4 n5).trans (same_new _ nt)) (s4.free n5) upd_same (same_new _ nt _ _ ?_)
      rw [upd_same]
      show some (HO.lst _) = some (HO.lst ((insAt (delAt hs s) s x).map V.int))
      rw [later_str i1, List.map_append, List.map_append]
      rfl
    | rem s x =>
      have i1 : s < hs.length := ok
      refine ⟨.int 1, rfl, rfl, _, rfl, ite_f (by decide) ⟨.int 1, rfl, rfl, _, rfl, ite_f (by decide) ?_⟩⟩
      refine ⟨.ref b, rfl, .int s, rfl, s, rfl, b, _, rfl, hB, fun p1 n1 => ?_⟩
      rw [cut_to (Nat.le_of_lt i1)] at *
      refine ⟨.ref b, rfl, .int s, rfl, s, 1, rfl, rfl, ((s + 1 : Nat) : Int), rfl, b, _, rfl, (same_new _ n1).seq hB, fun p2 n2 => ?_⟩
      rw [cut_from i1] at *
      have s2 := (same_new (H := H) (p := p1) (.lst ((hs.take s).map V.int)) n1).trans (same_new (.lst ((hs.drop (s + 1)).map V.int)) n2)
      refine ⟨p1, p2, _, _, rfl, rfl, same_new _ n2 _ _ upd_same, upd_same, small_le (m := 3000) (by rw [List.length_map, List.length_take, List.length_map, List.length_drop]; omega) (by decide), fun p3 n3 => ?_⟩
      have nH3 : H p3 = none := s2.free n3
      have s3 := s2.trans (same_new (.lst ((hs.take s).map V.int ++ (hs.drop (s + 1)).map V.int)) n3)
      have e3 : (upd (upd (upd H p1 (.lst ((hs.take s).map V.int))) p2 (.lst ((hs.drop (s + 1)).map V.int))) p3 (.lst ((hs.take s).map V.int ++ (hs.drop (s + 1)).map V.int))) p3 = some (.lst ((delAt hs s).map V.int)) := by
        rw [upd_same]
        unfold delAt
        rw [List.map_append]
      generalize upd (upd (upd H p1 (.lst ((hs.take s).map V.int))) p2 (.lst ((hs.drop (s + 1)).map V.int))) p3 (.lst ((hs.take s).map V.int ++ (hs.drop (s + 1)).map V.int)) = H3 at s3 e3 ⊢
      refine ⟨.int 1, rfl, rfl, _, rfl, ite_t (by decide) ⟨.ref p3, rfl, .int s, rfl, (by show 3 ≤ sizeLine; decide), fun t nt => ?_⟩⟩
      exact q _ t p3 (s3.trans (same_new _ nt)) nH3 upd_same (same_new _ nt _ _ e3)
    | mov s t =>
      have i1 : s < hs.length := ok.1
      have ld := delAt_len i1
      have i2 : t ≤ (delAt hs s).length := by have := ok.2; omega
      refine ⟨.int 2, rfl, rfl, _, rfl, ite_f (by decide) ⟨.int 2, rfl, rfl, _, rfl, ite_f (by decide) ?_⟩⟩
      refine ⟨.ref b, rfl, .int s, rfl, s, rfl, b, _, rfl, hB, fun p1 n1 => ?_⟩
      rw [cut_to (Nat.le_of_lt i1)] at *
      refine ⟨.ref b, rfl, .int s, rfl, s, 1, rfl, rfl, ((s + 1 : Nat) : Int), rfl, b, _, rfl, (same_new _ n1).seq hB, fun p2 n2 => ?_⟩
      rw [cut_from i1] at *
      have s2 := (same_new (H := H) (p := p1) (.lst ((hs.take s).map V.int)) n1).trans (same_new (.lst ((hs.drop (s + 1)).map V.int)) n2)
      refine ⟨p1, p2, _, _, rfl, rfl, same_new _ n2 _ _ upd_same, upd_same, small_le (m := 3000) (by rw [List.length_map, List.length_take, List.length_map, List.length_drop]; omega) (by decide), fun p3 n3 => ?_⟩
      have nH3 : H p3 = none := s2.free n3
      have s3 := s2.trans (same_new (.lst ((hs.take s).map V.int ++ (hs.drop (s + 1)).map V.int)) n3)
      have e3 : (upd (upd (upd H p1 (.lst ((hs.take s).map V.int))) p2 (.lst ((hs.drop (s + 1)).map V.int))) p3 (.lst ((hs.take s).map V.int ++ (hs.drop (s + 1)).map V.int))) p3 = some (.lst ((delAt hs s).map V.int)) := by
        rw [upd_same]
        unfold delAt
        rw [List.map_append]
      generalize upd (upd (upd H p1 (.lst ((hs.take s).map V.int))) p2 (.lst ((hs.drop (s + 1)).map V.int))) p3 (.lst ((hs.take s).map V.int ++ (hs.drop (s + 1)).map V.int)) = H3 at s3 e3 ⊢
      refine ⟨.int 2, rfl, rfl, _, rfl, ite_f (by decide) ⟨.int 2, rfl, rfl, _, rfl, ite_t (by decide) ?_⟩⟩
      refine ⟨.ref p3, rfl, .int t, rfl, t, rfl, p3, _, rfl, SqL.of e3, fun p4 n4 => ?_⟩
      rw [cut_to i2] at *
      refine ⟨.ref b, rfl, .int s, rfl, b, _, s, _, rfl, rfl, (s3.trans (same_new _ n4)).seq hB, hat i1, (by show 1 ≤ sizeLine; decide), fun p5 n5 => ?_⟩
      refine ⟨p4, p5, _, _, rfl, rfl, same_new _ n5 _ _ upd_same, upd_same, small_le (m := 3000) (by rw [List.length_map, List.length_take]; simp only [List.length_cons, List.length_nil]; omega) (by decide), fun p6 n6 => ?_⟩
      have s6 := ((same_new (H := H3) (p := p4) (.lst (((delAt hs s).take t).map V.int)) n4).trans (same_new (.lst [.int (hs.getD s 0)]) n5)).trans (same_new (.lst (((delAt hs s).take t).map V.int ++ [.int (hs.getD s 0)])) n6)
      have e6 : (upd (upd (upd H3 p4 (.lst (((delAt hs s).take t).map V.int))) p5 (.lst [.int (hs.getD s 0)])) p6 (.lst (((delAt hs s).take t).map V.int ++ [.int (hs.getD s 0)]))) p6 = some (.lst (((delAt hs s).take t).map V.int ++ [.int (hs.getD s 0)])) := upd_same
      generalize upd (upd (upd H3 p4 (.lst (((delAt hs s).take t).map V.int))) p5 (.lst [.int (hs.getD s 0)])) p6 (.lst (((delAt hs s).take t).map V.int ++ [.int (hs.getD s 0)])) = H6 at s6 e6 ⊢
      refine ⟨.ref p3, rfl, .int t, rfl, t, rfl, p3, _, rfl, SqL.of (s6 _ _ e3), fun p7 n7 => ?_⟩
      rw [cut_from i2] at *
      refine ⟨p6, p7, _, _, rfl, rfl, same_new _ n7 _ _ e6, upd_same, small_le (m := 3000) (by rw [List.length_append, List.length_map, List.length_take, List.length_map, List.length_drop]; simp only [List.length_cons, List.length_nil]; omega) (by decide), fun p8 n8 => ?_⟩
      refine ⟨.int s, rfl, .int t, rfl, (by show 3 ≤ sizeLine; decide), fun T nT => ?_⟩
      have s8 := (s3.trans s6).trans (same_new (.lst (((delAt hs s).drop t).map V.int)) n7)
      refine q _ T p8 ((same_lay s8 n8).trans (same_new _ nT)) (s8.free n8) upd_same (same_new _ nT _ _ ?_)
      rw [upd_same]
      show some (HO.lst _) = some (HO.lst (((delAt hs s).take t ++ [hs.getD s 0] ++ (delAt hs s).drop t).map V.int))
      rw [List.map_append, List.map_append]
      rfl
    | exc s x =>
      have i2 : s + 1 < hs.length := ok
      have i1 : s < hs.length := by omega
      refine ⟨.int 4, rfl, rfl, _, rfl, ite_f (by decide) ⟨.int 4, rfl, rfl, _, rfl, ite_f (by decide) ?_⟩⟩
      refine ⟨.ref b, rfl, .int s, rfl, s, rfl, b, _, rfl, hB, fun p1 n1 => ?_⟩
      rw [cut_to (Nat.le_of_lt i1)] at *
      refine ⟨.ref b, rfl, .int s, rfl, s, 1, rfl, rfl, ((s + 1 : Nat) : Int), rfl, b, _, rfl, (same_new _ n1).seq hB, fun p2 n2 => ?_⟩
      rw [cut_from i1] at *
      have s2 := (same_new (H := H) (p := p1) (.lst ((hs.take s).map V.int)) n1).trans (same_new (.lst ((hs.drop (s + 1)).map V.int)) n2)
      refine ⟨p1, p2, _, _, rfl, rfl, same_new _ n2 _ _ upd_same, upd_same, small_le (m := 3000) (by rw [List.length_map, List.length_take, List.length_map, List.length_drop]; omega) (by decide), fun p3 n3 => ?_⟩
      have nH3 : H p3 = none := s2.free n3
      have s3 := s2.trans (same_new (.lst ((hs.take s).map V.int ++ (hs.drop (s + 1)).map V.int)) n3)
      have e3 : (upd (upd (upd H p1 (.lst ((hs.take s).map V.int))) p2 (.lst ((hs.drop (s + 1)).map V.int))) p3 (.lst ((hs.take s).map V.int ++ (hs.drop (s + 1)).map V.int))) p3 = some (.lst ((delAt hs s).map V.int)) := by
        rw [upd_same]
        unfold delAt
        rw [List.map_append]
      generalize upd (upd (upd H p1 (.lst ((hs.take s).map V.int))) p2 (.lst ((hs.drop (s + 1)).map V.int))) p3 (.lst ((hs.take s).map V.int ++ (hs.drop (s + 1)).map V.int)) = H3 at s3 e3 ⊢
      refine ⟨.int 4, rfl, rfl, _, rfl, ite_f (by decide) ⟨.int 4, rfl, rfl, _, rfl, ite_f (by decide) ?_⟩⟩
      refine ⟨.ref b, rfl, .int s, rfl, s, 1, rfl, rfl, b, _, ((s + 1 : Nat) : Int), _, rfl, rfl, s3.seq hB, hat i2, .ref b, rfl, .int s, rfl, b, _, s, _, rfl, rfl, s3.seq hB, hat i1, (by show 2 ≤ sizeLine; decide), fun p4 n4 => ?_⟩
      have s4 := s3.trans (same_new (.lst [.int (hs.getD (s + 1) 0), .int (hs.getD s 0)]) n4)
      have e4 : (upd H3 p4 (.lst [.int (hs.getD (s + 1) 0), .int (hs.getD s 0)])) p4 = some (.lst [.int (hs.getD (s + 1) 0), .int (hs.getD s 0)]) := upd_same
      generalize upd H3 p4 (.lst [.int (hs.getD (s + 1) 0), .int (hs.getD s 0)]) = H4 at s4 e4 ⊢
      refine ⟨.ref b, rfl, .int s, rfl, s, rfl, b, _, rfl, s4.seq hB, fun p5 n5 => ?_⟩
      rw [cut_to (Nat.le_of_lt i1)] at *
      refine ⟨.ref p4, rfl, p5, p4, _, _, rfl, rfl, upd_same, same_new _ n5 _ _ e4, small_le (m := 3000) (by rw [List.length_map, List.length_take]; simp only [List.length_cons, List.length_nil]; omega) (by decide), fun p6 n6 => ?_⟩
      have s6 := s4.trans ((same_new (H := H4) (p := p5) (.lst ((hs.take s).map V.int)) n5).trans (same_new (.lst ((hs.take s).map V.int ++ [.int (hs.getD (s + 1) 0), .int (hs.getD s 0)])) n6))
      refine ⟨.ref b, rfl, .int s, rfl, s, 2, rfl, rfl, ((s + 2 : Nat) : Int), rfl, b, _, rfl, s6.seq hB, fun p7 n7 => ?_⟩
      rw [cut_from (show s + 2 ≤ hs.length by omega)] at *
      refine ⟨p6, p7, _, _, rfl, rfl, same_new _ n7 _ _ upd_same, upd_same, small_le (m := 3000) (by rw [List.length_append, List.length_map, List.length_take, List.length_map, List.length_drop]; simp only [List.length_cons, List.length_nil]; omega) (by decide), fun p8 n8 => ?_⟩
      refine ⟨(by show 3 ≤ sizeLine; decide), fun T nT => ?_⟩
      have s8 := s6.trans (same_new (.lst ((hs.drop (s + 2)).map V.int)) n7)
      refine q _ T p8 ((same_lay s8 n8).trans (same_new _ nT)) (s8.free n8) upd_same (same_new _ nT _ _ ?_)
      rw [upd_same]
      show some (HO.lst _) = some (HO.lst ((insAt (delAt hs s) (s + 1) (hs.getD s 0)).map V.int))
      rw [later_exc (gat i2), List.map_append, List.map_append]
      rfl
theorem delAt_le' (l : List Int) (i : Nat) : (delAt l i).length ≤ l.length := by
  unfold delAt
  simp only [List.length_append, List.length_take, List.length_drop]
  omega
theorem grow_le' (a b : List Int) : (grow a b).length ≤ a.length := by
  unfold grow
  rw [List.length_map, List.length_zip]
  omega
theorem delO_step {g : Option Nat} {l : List Int} {i : Nat} {x : Int} (e : l[i]? = some x) :
    (g = some i → delO g (l.take (i + 1)) = delO g (l.take i)) ∧ (g ≠ some i → delO g (l.take (i + 1)) = delO g (l.take i) ++ [x]) := by
  have il : i < l.length := (List.getElem?_eq_some_iff.mp e).1
  have tk : l.take (i + 1) = l.take i ++ [x] := by rw [List.take_add_one, e]; rfl
  have tl : (l.take i).length = i := by rw [List.length_take]; omega
  cases g with
  | none => exact ⟨(fun h => by cases h), fun _ => tk⟩
  | some s =>
    refine ⟨fun h => ?_, fun h => ?_⟩
    · cases h
      show delAt (l.take (i + 1)) i = delAt (l.take i) i
      unfold delAt
      rw [tk, List.take_append_of_le_length (by omega), List.drop_of_length_le (by rw [List.length_append, tl]; exact Nat.le_refl _), List.drop_of_length_le (by omega)]
    · have hs : s ≠ i := fun z => h (by rw [z])
      show delAt (l.take (i + 1)) s = delAt (l.take i) s ++ [x]
      unfold delAt
      by_cases h1 : s < i
      · rw [tk, List.take_append_of_le_length (by omega), List.drop_append_of_le_length (by omega), List.append_assoc]
      · have h2 : i < s := by omega
        rw [tk, List.take_of_length_le (l := l.take i ++ [x]) (by rw [List.length_append, tl]; exact h2), List.drop_of_length_le (l := l.take i ++ [x]) (by rw [List.length_append, tl]; simp; omega), List.take_of_length_le (l := l.take i) (by omega), List.drop_of_length_le (l := l.take i) (by omega)]
        simp
theorem delO_len (g : Option Nat) (l : List Int) : (delO g l).length ≤ l.length := by
  cases g with
  | none => exact Nat.le_refl _
  | some s => exact delAt_le' l s
theorem gV_ne {g : Option Nat} {i : Nat} : (V.int (i : Int) = gV g) ↔ g = some i := by
  cases g with
  | none => exact ⟨(fun h => by cases h), (fun h => by cases h)⟩
  | some s => exact ⟨(fun h => by have := V.int.inj h; congr 1; omega), (fun h => by cases h; rfl)⟩
theorem gV_scal (g : Option Nat) (i : Int) : scal (V.int i) (gV g) = true := by cases g <;> rfl
theorem later_len {hs : List Int} {ch : Ch} (ok : ch.ok hs.length) : (ch.later hs).length ≤ hs.length + 1 ∧ (delO ch.gone hs).length = (delO ch.new (ch.later hs)).length := by
  cases ch with
  | ins s x =>
    have := insAt_len (x := x) ok.1
    exact ⟨by show (insAt hs s x).length ≤ _; omega, by show hs.length = (delAt (insAt hs s x) s).length; have h1 : s ≤ hs.length := ok.1; rw [delAt_len (by omega)]; omega⟩
  | rem s x => 
    have := delAt_len (l := hs) ok
    exact ⟨by show (delAt hs s).length ≤ _; omega, rfl⟩
  | mov s t =>
    have h1 := delAt_len (l := hs) ok.1
    have h0 : s < hs.length := ok.1
    have h3 : t < hs.length := ok.2
    have h2 := insAt_len (l := delAt hs s) (i := t) (x := hs.getD s 0) (by omega)
    exact ⟨by show (insAt (delAt hs s) t _).length ≤ _; omega, by show (delAt hs s).length = (delAt (insAt (delAt hs s) t _) t).length; rw [delAt_len (l := insAt (delAt hs s) t _) (by omega)]; omega⟩
  | str s x =>
    have h0 : s < hs.length := ok.1
    have h1 := delAt_len (l := hs) h0
    have h2 := insAt_len (l := delAt hs s) (i := s) (x := x) (by omega)
    exact ⟨by show (insAt (delAt hs s) s x).length ≤ _; omega, by show hs.length = (insAt (delAt hs s) s x).length; omega⟩
  | exc s x =>
    have h0 : s + 1 < hs.length := ok
    have h1 := delAt_len (l := hs) (i := s) (by omega)
    have h2 := insAt_len (l := delAt hs s) (i := s + 1) (x := hs.getD s 0) (by omega)
    exact ⟨by show (insAt (delAt hs s) (s + 1) _).length ≤ _; omega, by show hs.length = (insAt (delAt hs s) (s + 1) _).length; omega⟩
theorem delO_lens {g : Option Nat} {a b : List Int} (h : a.length = b.length) : (delO g a).length = (delO g b).length := by
  cases g with
  | none => exact h
  | some s =>
    show (delAt a s).length = (delAt b s).length
    unfold delAt
    simp only [List.length_append, List.length_take, List.length_drop, h]
end

section
variable {P : Program} {w : World} {K : PySem.W.Frag} {mg : Str → Option Value} {base : Heap}
theorem ins_get {l : List Int} {i k : Nat} {x : Int} (h : i ≤ l.length) : (insAt l i x)[k]? = if k < i then l[k]? else if k = i then some x else l[k - 1]? := by
  have tl : (l.take i).length = i := by rw [List.length_take]; omega
  unfold insAt
  rw [List.append_assoc]
  split
  · rename_i hk
    rw [List.getElem?_append_left (by omega), List.getElem?_take_of_lt hk]
  · rename_i hk
    rw [List.getElem?_append_right (by omega), tl]
    split
    · rename_i h2
      rw [h2, Nat.sub_self]; rfl
    · rename_i h2
      rw [show k - i = (k - i - 1) + 1 by omega]
      show (l.drop i)[k - i - 1]? = _
      rw [List.getElem?_drop]
      congr 1
      omega
theorem put_le (kvs : List (Key × V)) (k : Key) (x : V) : (putK kvs k x).length ≤ kvs.length + 1 := by
  unfold putK
  split
  · rw [List.length_map]; omega
  · rw [List.length_append]; exact Nat.le_refl _
/-- the names and the known tops of the cards -/
def Kn (kvs : List (Key × V)) (ns ts : List Int) : Prop := ns.length = ts.length ∧ ∀ (i : Nat) (n t : Int), ns[i]? = some n → ts[i]? = some t → valV kvs (.inl n) = some (.int t)
theorem Kn.del {kvs : List (Key × V)} {ns ts : List Int} {s : Nat} (h : Kn kvs ns ts) (hs : s < ns.length) : Kn kvs (delAt ns s) (delAt ts s) := by
  have ht : s < ts.length := by rw [← h.1]; exact hs
  refine ⟨by rw [delAt_len hs, delAt_len ht, h.1], fun i n t e1 e2 => ?_⟩
  rw [del_get hs] at e1
  rw [del_get ht] at e2
  by_cases hi : i < s
  · rw [if_pos hi] at e1 e2; exact h.2 i n t e1 e2
  · rw [if_neg hi] at e1 e2; exact h.2 (i + 1) n t e1 e2
theorem Kn.delO {kvs : List (Key × V)} {ns ts : List Int} {g : Option Nat} (h : Kn kvs ns ts) (hs : ∀ s, g = some s → s < ns.length) : Kn kvs (delO g ns) (delO g ts) := by
  cases g with
  | none => exact h
  | some s => exact h.del (hs s rfl)
theorem Kn.ins {kvs : List (Key × V)} {ns ts : List Int} {s : Nat} {m x : Int} (h : Kn kvs ns ts) (hs : s ≤ ns.length) (hv : valV kvs (.inl m) = some (.int x)) : Kn kvs (insAt ns s m) (insAt ts s x) := by
  have ht : s ≤ ts.length := by rw [← h.1]; exact hs
  refine ⟨by rw [insAt_len hs, insAt_len ht, h.1], fun i n t e1 e2 => ?_⟩
  rw [ins_get hs] at e1
  rw [ins_get ht] at e2
  by_cases hi : i < s
  · rw [if_pos hi] at e1 e2; exact h.2 i n t e1 e2
  · rw [if_neg hi] at e1 e2
    by_cases h2 : i = s
    · rw [if_pos h2] at e1 e2
      cases e1; cases e2; exact hv
    · rw [if_neg h2] at e1 e2; exact h.2 _ n t e1 e2
theorem Kn.put {kvs : List (Key × V)} {ns ts : List Int} {m : Int} {v : V} (h : Kn kvs ns ts) (hm : m ∉ ns) : Kn (putK kvs (.inl m) v) ns ts :=
  ⟨h.1, fun i n t e1 e2 => by
    rw [valV_put, if_neg fun z => hm (by cases z; exact List.mem_of_getElem? e1)]
    exact h.2 i n t e1 e2⟩
def addL (a b : List Int) : List Int := (a.zip b).map fun p => p.1 + p.2
theorem addL_len {a b : List Int} (h : a.length = b.length) : (addL a b).length = a.length := by
  unfold addL
  rw [List.length_map, List.length_zip]
  omega
theorem addL_at {a b : List Int} {i : Nat} {x y : Int} (h1 : a[i]? = some x) (h2 : b[i]? = some y) : (addL a b)[i]? = some (x + y) := by
  unfold addL
  rw [List.getElem?_map, (List.getElem?_zip_eq_some (z := (x, y))).mpr ⟨h1, h2⟩]
  rfl
theorem addL_grow : ∀ {a b : List Int}, a.length = b.length → addL a (grow a b) = b
  | [], [], _ => rfl
  | x :: a, y :: b, h => by
    have ih := addL_grow (a := a) (b := b) (by simpa using h)
    show (x + (y - x)) :: addL a (grow a b) = y :: b
    rw [ih]
    congr 1
    omega
theorem del_ins {l : List Int} {s : Nat} {x : Int} (h : l[s]? = some x) : insAt (delAt l s) s x = l := by
  have hs := get_lt h
  rw [later_str hs, List.append_assoc]
  show l.take s ++ x :: l.drop (s + 1) = l
  rw [← (List.getElem?_eq_some_iff.mp h).2, ← List.drop_eq_getElem_cons hs, List.take_append_drop]
theorem nodup_ix {ns : List Int} (h : ns.Nodup) {i j : Nat} {n : Int} (e1 : ns[i]? = some n) (e2 : ns[j]? = some n) : i = j :=
  (List.getElem?_inj (get_lt e1) h).mp (by rw [e1, e2])
/-- one turn of the loop over the grown tops -/
def Gro (kvs : List (Key × V)) (r o e : List Int) (i : Nat) : Prop := ∀ (j : Nat) (n t : Int), r[j]? = some n → (if j < i then addL o e else o)[j]? = some t → valV kvs (.inl n) = some (.int t)
theorem Gro.step {kvs : List (Key × V)} {r o e : List Int} {i : Nat} {n t g : Int} (h : Gro kvs r o e i) (nd : r.Nodup) (e1 : r[i]? = some n) (e2 : o[i]? = some t) (e3 : e[i]? = some g) : Gro (putK kvs (.inl n) (.int (t + g))) r o e (i + 1) := fun j m u f1 f2 => by
  rw [valV_put]
  by_cases hj : j = i
  · subst hj
    rw [f1] at e1
    cases e1
    rw [if_pos (Nat.lt_succ_self _), addL_at e2 e3] at f2
    cases f2
    exact if_pos rfl
  · rw [if_neg fun z => hj (by cases z; exact nodup_ix nd f1 e1)]
    refine h j m u f1 ?_
    by_cases h2 : j < i
    · rw [if_pos h2]; rw [if_pos (by omega)] at f2; exact f2
    · rw [if_neg h2]; rw [if_neg (by omega)] at f2; exact f2
theorem nodup_ins {ns : List Int} {s : Nat} {m : Int} (h : ns.Nodup) (hm : m ∉ ns) : (insAt ns s m).Nodup := by
  have p : (insAt ns s m).Perm (m :: ns) := by
    unfold insAt
    rw [List.append_assoc]
    have q := List.perm_middle (a := m) (l₁ := ns.take s) (l₂ := ns.drop s)
    rw [List.take_append_drop] at q
    exact q
  exact p.nodup_iff.mpr (List.nodup_cons.mpr ⟨hm, h⟩)
theorem nodup_del {ns : List Int} {s : Nat} (h : ns.Nodup) : (delAt ns s).Nodup := by
  rw [show delAt ns s = ns.take s ++ ns.drop (s + 1) from rfl, ← List.eraseIdx_eq_take_drop_succ]
  exact h.sublist (List.eraseIdx_sublist ns s)
theorem not_del {ns : List Int} {s : Nat} {m : Int} (h : ns.Nodup) (e : ns[s]? = some m) : m ∉ delAt ns s := fun z => by
  obtain ⟨j, hj⟩ := List.getElem?_of_mem z
  rw [del_get (get_lt e)] at hj
  split at hj
  · have := nodup_ix h e hj; omega
  · have := nodup_ix h e hj; omega
theorem setJ {te : TE} {g : TG} {u : TS} {D : Ends} {σ : L2.St} {H : Hp} (J : V → Hp → Prop) (h1 : ∀ Qx : VK, (∀ v H', J v H' → Qx v H') → te σ H Qx) (h2 : ∀ v H', J v H' → g v σ H' (u D)) : tSeq (tAsg te g) u D σ H := h1 _ h2
theorem bfree {H H' : Hp} {d p : Addr} {kvs kvs' : List (Key × V)} (b : But d H H') (e : H d = some (.dK kvs)) (np : H' p = none) (e' : H' d = some (.dK kvs')) : H p = none := by
  cases h : H p with
  | none => rfl
  | some u =>
    by_cases z : p = d
    · rw [z, e'] at np; cases np
    · rw [b _ _ z h] at np; cases np
def spFollowed (K : PySem.W.Frag) : Sp := fun vs H Q _ => ∃ (d l c f af : Addr) (kvs : List (Key × V)) (ns old eff aft : List Int) (ch : Ch) (nw : Int), vs = [.ref d, .ref l, .ref c, .ref f, .ref af, .int nw] ∧ H d = some (.dK kvs) ∧ H l = some (.lst (ns.map V.int)) ∧
  H c = some (.lst (ch.enc.map V.int)) ∧ H f = some (.lst (eff.map V.int)) ∧ H af = some (.lst (aft.map V.int)) ∧ kvs.length ≤ 9000 ∧ ns.length ≤ 200 ∧ ns.Nodup ∧ nw ∉ ns ∧ Kn kvs ns old ∧ ch.ok ns.length ∧ ch.kind < 4 ∧ (delO ch.gone old).length = eff.length ∧ addL (delO ch.gone old) eff = delO ch.new aft ∧
  aft.length ≤ 200 ∧ (∀ s, ch.new = some s → s < aft.length) ∧
  ∀ H' kvs' (ns' : List Int) p, But d H H' → H' d = some (.dK kvs') → H' p = some (.lst (ns'.map V.int)) → (p = l ∨ H p = none) → ns'.Nodup → Kn kvs' ns' aft → (∀ n ∈ ns', n ∈ ns ∨ n = nw) → kvs'.length ≤ kvs.length + 300 → Q (.ref p) H'
set_option maxHeartbeats 2000000 in
theorem ok_law_followed (T : Txt K mg) : FnOk P w K mg base CX0 1 T.a_law_followed T.d_law_followed ["known", "names", "change", "found", "after", "new_name"] (spFollowed K) := by
  refine T.F_law_followed.ok sc_law_followed (fun vs H Q E h => ?_) (fun cdv A outer s H vs Q E hr h => ?_)
  · obtain ⟨d, l, c, f, af, kvs, ns, old, eff, aft, ch, nw, rfl, _⟩ := h; rfl
  · obtain ⟨d, l, c, f, af, kvs, ns, old, eff, aft, ch, nw, rfl, ed, el, ec, ef, ea, lk, ln, nd, nn, kn, ok, k4, le, eq, la, hn, q⟩ := h
    refine ⟨_, (pss_cons (ps_asg (pv 2) (pg_unl rfl (pgs_cons (pg_name (i := 6) sc_law_followed.nd rfl (.inl rfl)) (pgs_cons (pg_name (i := 7) sc_law_followed.nd rfl (.inl rfl)) (pgs_cons (pg_name (i := 8) sc_law_followed.nd rfl (.inl rfl)) pgs_nil)))))
  (pss_cons (ps_set (i := 9) sc_law_followed.nd rfl (.inl rfl) (pe_ifExp (pt_cmpR op_in_seq (pv 6) (pe_tup (pa_cons pe_int (pa_cons pe_int pa_nil))) rfl) (pe_op op_cat (pe_slice sl_list (pv 1) po_none (po_some (pv 7))) (pe_slice sl_list (pv 1) (po_some (pe_op op_add (pv 7) pe_int)) po_none)) (pv 1)))
  (pss_cons (ps_for PassesOwn.never rfl (pi_zip (by rfl) T.z_zip (pa_cons (pv 9) (pa_cons (pv 3) pa_nil))) (pg_tup rfl (pgs_cons (pg_name (i := 10) sc_law_followed.nd rfl (.inl rfl)) (pgs_cons (pg_name (i := 11) sc_law_followed.nd rfl (.inl rfl)) pgs_nil)))
  (pss_one (ps_asg (pe_op op_add (pe_dget (room1 hr) (pv 0) (pv 10) (fun _ _ => rfl)) (pv 11)) (pg_sub (pv 0) (pv 10) (set_dict (room1 hr))))))
  (pss_cons (ps_if (pt_cmpR op_eq (pv 6) pe_int (nomark _))
  (pss_cons (ps_asg (pe_ix ix_list (pv 4) (pv 7) (fun _ _ => rfl)) (pg_sub (pv 0) (pv 5) (set_dict (room1 hr))))
  (pss_one (ps_ret (pe_op op_cat (pe_op op_cat (pe_slice sl_list (pv 1) po_none (po_some (pv 7))) (pe_lst (pa_cons (pv 5) pa_nil))) (pe_slice sl_list (pv 1) (po_some (pv 7)) po_none)))))
  pss_nil)
  (pss_cons (ps_if (pt_cmpR op_eq (pv 6) pe_int (nomark _))
  (pss_cons (ps_asg (pe_ix ix_list (pv 4) (pv 8) (fun _ _ => rfl)) (pg_sub (pv 0) (pe_ix ix_list (pv 1) (pv 7) (fun _ _ => rfl)) (set_dict (room1 hr))))
  (pss_one (ps_ret (pe_op op_cat (pe_op op_cat (pe_slice sl_list (pv 9) po_none (po_some (pv 8))) (pe_lst (pa_cons (pe_ix ix_list (pv 1) (pv 7) (fun _ _ => rfl)) pa_nil))) (pe_slice sl_list (pv 9) (po_some (pv 8)) po_none)))))
  pss_nil)
  (pss_one (ps_ret (pv 9)))))))), ?_⟩
    rw [ch.enc_eq] at ec
    refine ⟨.ref c, rfl, c, _, rfl, SqL.of ec, rfl, _, [_, _], rfl, _, [_], rfl, _, [], rfl, rfl, ?_⟩
    have hk : (∃ s, ch.gone = some s ∧ ch.spot = s ∧ s < ns.length ∧ (ch.kind = 1 ∨ ch.kind = 2)) ∨ (ch.gone = none ∧ (ch.kind = 0 ∨ ch.kind = 3)) := by
      cases ch with
      | ins s x => exact .inr ⟨rfl, .inl rfl⟩
      | rem s x => exact .inl ⟨s, rfl, rfl, ok, .inl rfl⟩
      | mov s t => exact .inl ⟨s, rfl, rfl, ok.1, .inr rfl⟩
      | str s x => exact .inr ⟨rfl, .inr rfl⟩
      | exc s x => exact absurd (show (4 : Int) < 4 from k4) (by decide)
    have nld : ∀ {z : Addr} {xs : List V} {H' : Hp}, But d H H' → H z = some (.lst xs) → H' z = some (.lst xs) := fun {z xs H'} b e => b z _ (fun y => by rw [y, ed] at e; cases e) e
    -- the names of the others
    dsimp only
    refine setJ (fun v H' => ∃ pr, v = .ref pr ∧ Same H H' ∧ H' pr = some (.lst ((delO ch.gone ns).map V.int)) ∧ (pr = l ∨ H pr = none)) (fun Qx k => ?_) (fun v H1 hv => ?_)
    · rcases hk with ⟨s, hg, hsp, hs, hkk⟩ | ⟨hg, hkk⟩
      · subst hsp
        refine ⟨.int ch.kind, rfl, (by show 2 ≤ sizeLine; decide), fun t nt => ⟨t, [.int 1, .int 2], rfl, .inr (SqT.of upd_same), rfl, rfl, true, ?_, ?_⟩⟩
        · rcases hkk with z | z <;> rw [z] <;> rfl
        · refine iteT ?_
          have st := same_new (H := H) (p := t) (.tup [.int 1, .int 2]) nt
          generalize upd H t _ = Ht at st ⊢
          have elt := st _ _ el
          refine ⟨.ref l, rfl, .int ch.spot, rfl, ch.spot, rfl, l, _, rfl, SqL.of elt, fun p1 n1 => ?_⟩
          rw [cut_to (Nat.le_of_lt hs)] at *
          refine ⟨.ref l, rfl, .int ch.spot, rfl, ch.spot, 1, rfl, rfl, ((ch.spot + 1 : Nat) : Int), rfl, l, _, rfl, SqL.of (same_new _ n1 _ _ elt), fun p2 n2 => ?_⟩
          rw [cut_from hs] at *
          refine ⟨p1, p2, _, _, rfl, rfl, same_new _ n2 _ _ upd_same, upd_same, small_le (m := 3000) (by rw [List.length_map, List.length_take, List.length_map, List.length_drop]; omega) (by decide), fun p3 n3 => ?_⟩
          have s3 := st.trans (((same_new _ n1).trans (same_new _ n2)).trans (same_new (.lst ((ns.take ch.spot).map V.int ++ (ns.drop (ch.spot + 1)).map V.int)) n3))
          refine k _ _ ⟨p3, rfl, s3, ?_, .inr ((st.trans ((same_new _ n1).trans (same_new _ n2))).free n3)⟩
          rw [upd_same, hg]
          show some (HO.lst _) = some (HO.lst ((delAt ns ch.spot).map V.int))
          unfold delAt
          rw [List.map_append]
      · refine ⟨.int ch.kind, rfl, (by show 2 ≤ sizeLine; decide), fun t nt => ⟨t, [.int 1, .int 2], rfl, .inr (SqT.of upd_same), rfl, rfl, false, ?_, ?_⟩⟩
        · rcases hkk with z | z <;> rw [z] <;> rfl
        · refine iteF ?_
          refine ⟨_, rfl, k _ _ ⟨l, rfl, same_new _ nt, ?_, .inl rfl⟩⟩
          rw [hg]
          exact same_new _ nt _ _ el
    obtain ⟨pr, rfl, s1, er, hpr⟩ := hv
    have lr : (delO ch.gone ns).length = (delO ch.gone old).length := (kn.delO fun s hs => by
      rcases hk with ⟨s', hg, _, h, _⟩ | ⟨hg, _⟩
      · rw [hg] at hs; cases hs; exact h
      · rw [hg] at hs; cases hs).1
    have knr : Kn kvs (delO ch.gone ns) (delO ch.gone old) := kn.delO fun s hs => by
      rcases hk with ⟨s', hg, _, h, _⟩ | ⟨hg, _⟩
      · rw [hg] at hs; cases hs; exact h
      · rw [hg] at hs; cases hs
    have ndr : (delO ch.gone ns).Nodup := by
      cases ch.gone with
      | none => exact nd
      | some s => exact nodup_del nd
    have lrn := delO_len ch.gone ns
    have ed1 := s1 _ _ ed
    have ef1 := s1 _ _ ef
    have npd : pr ≠ d := fun z => by rw [z, ed1] at er; cases er
    have nfd : f ≠ d := fun z => by rw [z, ed] at ef; cases ef
    refine ⟨.ref pr, rfl, .ref f, rfl, pr, f, _, _, rfl, SqL.of er, SqL.of ef1, ?_⟩
    refine RZ.for_zipL (K := K) (a := pr) (b := f) (xs := (delO ch.gone ns).map V.int) (ys := eff.map V.int) (by rw [List.length_map, List.length_map, lr, le])
      (fun i σ H2 => ∃ y10 y11 kvs', σ = [some (.ref d), some (.ref l), some (.ref c), some (.ref f), some (.ref af), some (.int nw), some (.int ch.kind), some (.int ch.spot), some (.int ch.other), some (.ref pr), y10, y11] ∧ But d H1 H2 ∧ H2 d = some (.dK kvs') ∧ kvs'.length ≤ kvs.length + i ∧ Gro kvs' (delO ch.gone ns) (delO ch.gone old) eff i)
      ⟨none, none, kvs, rfl, But.refl _ _, ed1, by omega, fun j n t f1 f2 => knr.2 j n t f1 (by rw [if_neg (Nat.not_lt_zero _)] at f2; exact f2)⟩ (fun i σ H2 h => ?_) (fun i x y Tp σ H2 ex ey h nT => ?_) (fun σ H2 h => ?_)
    · obtain ⟨_, _, _, _, b, _⟩ := h
      exact ⟨SqL.of (b _ _ npd er), SqL.of (b _ _ nfd ef1)⟩
    · obtain ⟨y10, y11, kv2, rfl, b2, ed2, lk2, gr⟩ := h
      obtain ⟨n, en, rfl⟩ := get_map ex
      obtain ⟨g, eg, rfl⟩ := get_map ey
      have hi := get_lt en
      obtain ⟨t, et⟩ : ∃ t, (delO ch.gone old)[i]? = some t := ⟨_, List.getElem?_eq_getElem (by omega)⟩
      have sT := same_new (H := H2) (p := Tp) (.tup [.int n, .int g]) nT
      have ed3 := sT _ _ ed2
      refine ⟨Tp, [_, _], rfl, SqT.of upd_same, rfl, _, [_], rfl, _, [], rfl, rfl, ?_⟩
      have gv := gr i n t en (by rw [if_neg (Nat.lt_irrefl _)]; exact et)
      have dg := DGet.k (k := .inl n) ed3
      rw [gv] at dg
      refine ⟨.ref d, rfl, .int n, rfl, d, _, rfl, dg, .int g, rfl, t, g, rfl, rfl, ?_⟩
      refine ⟨.ref d, rfl, .int n, rfl, d, _, rfl, DPut.k (k := .inl n) ed3 (small_of (m := 10000) (by omega) (by decide)), ?_⟩
      refine ⟨_, _, _, rfl, (b2.trans (But.of sT)).trans (But.upd _ _ _), upd_same, ?_, gr.step ndr en et eg⟩
      exact Nat.le_trans (put_le kv2 (.inl n) (.int (t + g))) (by omega)
    · obtain ⟨y10, y11, kv2, rfl, b2, ed2, lk2, gr⟩ := h
      rw [List.length_map] at lk2 gr
      have B2 : But d H H2 := (But.of s1).trans b2
      have kn2 : Kn kv2 (delO ch.gone ns) (delO ch.new aft) := by
        refine ⟨by rw [lr, ← eq, addL_len le], fun i n t e1 e2 => gr i n t e1 ?_⟩
        rw [if_pos (get_lt e1), eq]
        exact e2
      have el2 := nld B2 el
      have ea2 := nld B2 ea
      have er2 := b2 _ _ npd er
      have lk3 : kv2.length ≤ kvs.length + 250 := by omega
      clear gr b2 lk2
      cases ch with
      | ins s x =>
        have hs : s ≤ ns.length := ok.1
        have hsa := hn s rfl
        refine ⟨.int 0, rfl, rfl, _, rfl, ite_t (by decide) ?_⟩
        obtain ⟨y, ey⟩ : ∃ y, aft[s]? = some y := ⟨_, List.getElem?_eq_getElem hsa⟩
        refine ⟨.ref af, rfl, .int s, rfl, af, _, s, .int y, rfl, rfl, SqL.of ea2, atI_nat (by rw [List.getElem?_map, ey]; rfl), ?_⟩
        refine ⟨.ref d, rfl, .int nw, rfl, d, _, rfl, DPut.k (k := .inl nw) ed2 (small_of (m := 10000) (by omega) (by decide)), ?_⟩
        have lp := put_le kv2 (.inl nw) (.int y)
        have ed4 : (upd H2 d (.dK (putK kv2 (.inl nw) (.int y)))) d = some (.dK (putK kv2 (.inl nw) (.int y))) := upd_same
        have B4 : But d H (upd H2 d (.dK (putK kv2 (.inl nw) (.int y)))) := B2.trans (But.upd _ _ _)
        have kn4 : Kn (putK kv2 (.inl nw) (.int y)) (insAt ns s nw) aft := by
          have z := (Kn.put (v := .int y) kn2 nn).ins (m := nw) (x := y) hs (by rw [valV_put, if_pos rfl])
          rw [show insAt (delO (Ch.new (.ins s x)) aft) s y = aft from del_ins ey] at z
          exact z
        have el4 := nld B4 el
        generalize putK kv2 (.inl nw) (.int y) = kv4 at *
        generalize upd H2 d (.dK kv4) = H4 at *
        refine ⟨.ref l, rfl, .int s, rfl, s, rfl, l, _, rfl, SqL.of el4, fun p1 n1 => ⟨.int nw, rfl, (by show 1 ≤ sizeLine; decide), fun p2 n2 => ?_⟩⟩
        rw [cut_to hs] at *
        refine ⟨p1, p2, _, _, rfl, rfl, same_new _ n2 _ _ upd_same, upd_same, small_le (m := 2000) (by rw [List.length_map, List.length_take]; simp only [List.length_cons, List.length_nil]; omega) (by decide), fun p3 n3 => ?_⟩
        have s3 := ((same_new (H := H4) (p := p1) (.lst ((ns.take s).map V.int)) n1).trans (same_new (.lst [.int nw]) n2)).trans (same_new (.lst ((ns.take s).map V.int ++ [.int nw])) n3)
        refine ⟨.ref l, rfl, .int s, rfl, s, rfl, l, _, rfl, SqL.of (s3 _ _ el4), fun p4 n4 => ?_⟩
        rw [cut_from hs] at *
        have s4 := s3.trans (same_new (.lst ((ns.drop s).map V.int)) n4)
        refine ⟨p3, p4, _, _, rfl, rfl, same_new _ n4 _ _ upd_same, upd_same, small_le (m := 3000) (by rw [List.length_append, List.length_map, List.length_take, List.length_map, List.length_drop]; simp only [List.length_cons, List.length_nil]; omega) (by decide), fun p5 n5 => ?_⟩
        refine q _ _ _ p5 (B4.trans (But.of (same_lay s4 n5))) (same_lay s4 n5 _ _ ed4) ?_ (.inr (bfree B4 ed (s4.free n5) ed4)) (nodup_ins nd nn) kn4 (fun n hn => (mem_insAt hn).elim .inr .inl) (by omega)
        rw [upd_same]
        show some (HO.lst _) = some (HO.lst ((ns.take s ++ [nw] ++ ns.drop s).map V.int))
        rw [List.map_append, List.map_append]
        rfl
      | str s x =>
        refine ⟨.int 3, rfl, rfl, _, rfl, ite_f (by decide) ⟨.int 3, rfl, rfl, _, rfl, ite_f (by decide) ⟨_, rfl, ?_⟩⟩⟩
        exact q _ _ _ pr B2 ed2 er2 hpr nd kn2 (fun n h => .inl h) (by omega)
      | rem s x =>
        refine ⟨.int 1, rfl, rfl, _, rfl, ite_f (by decide) ⟨.int 1, rfl, rfl, _, rfl, ite_f (by decide) ⟨_, rfl, ?_⟩⟩⟩
        exact q _ _ _ pr B2 ed2 er2 hpr ndr kn2 (fun n h => .inl (mem_delAt h)) (by omega)
      | mov s t =>
        have hs : s < ns.length := ok.1
        have hta := hn t rfl
        have ld := delAt_len (l := ns) hs
        have ht : t ≤ (delAt ns s).length := by have : t < ns.length := ok.2; omega
        refine ⟨.int 2, rfl, rfl, _, rfl, ite_f (by decide) ⟨.int 2, rfl, rfl, _, rfl, ite_t (by decide) ?_⟩⟩
        obtain ⟨y, ey⟩ : ∃ y, aft[t]? = some y := ⟨_, List.getElem?_eq_getElem hta⟩
        have em := gat hs
        refine ⟨.ref af, rfl, .int t, rfl, af, _, t, .int y, rfl, rfl, SqL.of ea2, atI_nat (by rw [List.getElem?_map, ey]; rfl), ?_⟩
        generalize ns.getD s 0 = m at em
        have hat : atI (ns.map V.int) (s : Int) = some (.int m) := atI_nat (by rw [List.getElem?_map, em]; rfl)
        refine ⟨.ref d, rfl, .ref l, rfl, .int s, rfl, l, _, s, .int m, rfl, rfl, SqL.of el2, hat, d, _, rfl, DPut.k (k := .inl m) ed2 (small_of (m := 10000) (by omega) (by decide)), ?_⟩
        have lp := put_le kv2 (.inl m) (.int y)
        have ed4 : (upd H2 d (.dK (putK kv2 (.inl m) (.int y)))) d = some (.dK (putK kv2 (.inl m) (.int y))) := upd_same
        have B4 : But d H (upd H2 d (.dK (putK kv2 (.inl m) (.int y)))) := B2.trans (But.upd _ _ _)
        have nm := not_del nd em
        have kn4 : Kn (putK kv2 (.inl m) (.int y)) (insAt (delAt ns s) t m) aft := by
          have z := (Kn.put (v := .int y) kn2 nm).ins (m := m) (x := y) ht (by rw [valV_put, if_pos rfl])
          rw [show insAt (delO (Ch.new (.mov s t)) aft) t y = aft from del_ins ey] at z
          exact z
        have el4 := nld B4 el
        have er4 : (upd H2 d (.dK (putK kv2 (.inl m) (.int y)))) pr = some (.lst ((delAt ns s).map V.int)) := by rw [upd_ne npd]; exact er2
        generalize putK kv2 (.inl m) (.int y) = kv4 at *
        generalize upd H2 d (.dK kv4) = H4 at *
        refine ⟨.ref pr, rfl, .int t, rfl, t, rfl, pr, _, rfl, SqL.of er4, fun p1 n1 => ⟨.ref l, rfl, .int s, rfl, l, _, s, .int m, rfl, rfl, SqL.of (same_new _ n1 _ _ el4), hat, (by show 1 ≤ sizeLine; decide), fun p2 n2 => ?_⟩⟩
        rw [cut_to ht] at *
        refine ⟨p1, p2, _, _, rfl, rfl, same_new _ n2 _ _ upd_same, upd_same, small_le (m := 2000) (by rw [List.length_map, List.length_take]; simp only [List.length_cons, List.length_nil]; omega) (by decide), fun p3 n3 => ?_⟩
        have s3 := ((same_new (H := H4) (p := p1) (.lst (((delAt ns s).take t).map V.int)) n1).trans (same_new (.lst [.int m]) n2)).trans (same_new (.lst (((delAt ns s).take t).map V.int ++ [.int m])) n3)
        refine ⟨.ref pr, rfl, .int t, rfl, t, rfl, pr, _, rfl, SqL.of (s3 _ _ er4), fun p4 n4 => ?_⟩
        rw [cut_from ht] at *
        have s4 := s3.trans (same_new (.lst (((delAt ns s).drop t).map V.int)) n4)
        refine ⟨p3, p4, _, _, rfl, rfl, same_new _ n4 _ _ upd_same, upd_same, small_le (m := 3000) (by rw [List.length_append, List.length_map, List.length_take, List.length_map, List.length_drop]; simp only [List.length_cons, List.length_nil]; omega) (by decide), fun p5 n5 => ?_⟩
        refine q _ _ _ p5 (B4.trans (But.of (same_lay s4 n5))) (same_lay s4 n5 _ _ ed4) ?_ (.inr (bfree B4 ed (s4.free n5) ed4)) (nodup_ins ndr nm) kn4 (fun n hn => (mem_insAt hn).elim (fun e => .inl (by rw [e]; exact List.mem_of_getElem? em)) fun h => .inl (mem_delAt h)) (by omega)
        rw [upd_same]
        show some (HO.lst _) = some (HO.lst (((delAt ns s).take t ++ [m] ++ (delAt ns s).drop t).map V.int))
        rw [List.map_append, List.map_append]
        rfl
      | exc s x => exact absurd (show (4 : Int) < 4 from k4) (by decide)
end

section
variable {P : Program} {w : World} {K : PySem.W.Frag} {mg : Str → Option Value} {base : Heap}
theorem grow_self : ∀ l : List Int, grow l l = List.replicate l.length 0
  | [] => rfl
  | x :: l => by
    show (x - x) :: grow l l = _
    rw [grow_self l, Int.sub_self]
    rfl
theorem tops_snoc (cs hs : List Int) (x : Int) : tops cs (hs ++ [x]) = tops cs hs ++ [mn (ends cs hs)] := by
  rw [tops_app, tops_cons]
  rfl
theorem ins_end (l : List Int) (x : Int) : insAt l l.length x = l ++ [x] := by
  unfold insAt
  rw [List.take_length, List.drop_length, List.append_nil]
theorem del_end (l : List Int) (x : Int) : delAt (l ++ [x]) l.length = l := by
  rw [del_app, List.append_nil]
theorem eff_ins_end (cs hs : List Int) (x : Int) : effIns cs hs hs.length x = List.replicate hs.length 0 := by
  unfold effIns
  have e := del_end (tops cs hs) (mn (ends cs hs))
  rw [tops_len] at e
  rw [ins_end, tops_snoc, e, grow_self, tops_len]
theorem eff_rem_end (cs hs : List Int) (x : Int) : effRem cs (hs ++ [x]) hs.length = List.replicate hs.length 0 := by
  unfold effRem
  have e := del_end (tops cs hs) (mn (ends cs hs))
  rw [tops_len] at e
  rw [del_end, tops_snoc, e, grow_self, tops_len]
theorem eqL (ns ms : List Int) : PyData.eqv (.list (ns.map PyData.int)) (.list (ms.map PyData.int)) = decide (ns = ms) := PySem.W.ked_eqvAll ns ms
theorem rep0 {H : Hp} {Q : VK} {l : Addr} {n : Nat} (h : H l = some (.lst [.int 0])) (hl : n ≤ 1000) (q : ∀ a, H a = none → Q (.ref a) (upd H a (.lst ((List.replicate n (0 : Int)).map V.int)))) :
    rRep (.ref l) (.int (n : Int)) H Q := by
  refine ⟨l, n, [.int 0], rfl, rfl, h, by omega, by omega, ?_, fun a na => ?_⟩
  · show 1 * (n : Int).toNat ≤ _
    rw [Nat.one_mul, Int.toNat_natCast]
    exact small_le (m := 1000) hl (by decide)
  · have e : (List.replicate (n : Int).toNat [V.int 0]).flatten = (List.replicate n (0 : Int)).map V.int := by
      rw [Int.toNat_natCast, List.map_replicate]
      clear h q hl
      induction n with
      | zero => rfl
      | succ n ih => rw [List.replicate_succ, List.flatten_cons, ih]; rfl
    rw [e]
    exact q a na
theorem setK51 {i : Nat} {x : V} {σ : L2.St} {H : Hp} {k : L2.St → Hp → Prop} (h : k (σ.set i (some x)) H) : gName i x σ H k := h
theorem stJ {t u : TS} {D : Ends} {σ : L2.St} {H : Hp} (I : L2.St → Hp → Prop) (h1 : ∀ k : L2.St → Hp → Prop, (∀ σ' H', I σ' H' → k σ' H') → t { D with nx := k } σ H) (h2 : ∀ σ' H', I σ' H' → u D σ' H') : tSeq t u D σ H := h1 _ h2
def spER51 (K : PySem.W.Frag) : Sp := fun vs H Q _ => ∃ (a b : Addr) (cs hs : List Int), vs = [.ref a, .ref b] ∧ H a = some (.lst (cs.map V.int)) ∧ H b = some (.lst (hs.map V.int)) ∧ IsStart cs ∧ IsCards hs ∧ ∀ H', Same H H' → Q (.bl true) H'
set_option maxHeartbeats 2000000 in
theorem ok_law_ends_right (T : Txt K mg) : FnOk P w K mg base CX0 8 T.a_law_ends_right T.d_law_ends_right ["start", "cards"] (spER51 K) := by
  refine T.F_law_ends_right.ok sc_law_ends_right (fun vs H Q E h => ?_) (fun cdv A outer s H vs Q E hr h => ?_)
  · obtain ⟨a, b, cs, hs, rfl, _⟩ := h; rfl
  · obtain ⟨a, b, cs, hs, rfl, ea, eb, st, cd, q⟩ := h
    have lh := cd.len
    refine ⟨_, (pss_cons (ps_set (i := 2) sc_law_ends_right.nd rfl (.inl rfl) (pe_callB call_len_seq (by rfl) T.z_len (by decide +kernel) (pa_cons (pv 1) pa_nil)))
  (pss_cons (ps_if (pt_cmpR op_lt (pv 2) pe_int (nomark _))
  (pss_cons (ps_if (pt_cmpR (op_neD hr.units) (pe_call (ok_effect_of_insert T) hr (by rfl) T.g_effect_of_insert T.F_effect_of_insert.kp T.b_effect_of_insert .nil pass0 (pa_cons (pv 0) (pa_cons (pv 1) (pa_cons (pv 2) (pa_cons pe_int pa_nil))))) (pe_op op_rep (pe_lst (pa_cons pe_int pa_nil)) (pv 2)) (nomark _))
  (pss_one (ps_ret pe_bl))
  pss_nil)
  (pss_one (ps_if (pt_cmpR op_ne (pe_ix ix_list (pe_call (ok_tops_of T) (hr.mono (by decide)) (by rfl) T.g_tops_of T.F_tops_of.kp T.b_tops_of .nil pass0 (pa_cons (pv 0) (pa_cons (pe_op op_cat (pv 1) (pe_lst (pa_cons pe_int pa_nil))) pa_nil))) (pe_un un_neg pe_int) (fun _ _ => rfl)) (pe_callB (cr_min rfl) (by rfl) T.z_min (by decide +kernel) (pa_cons (pe_call (ok_end_of T) (hr.mono (by decide)) (by rfl) T.g_end_of T.F_end_of.kp T.b_end_of .nil pass0 (pa_cons (pv 0) (pa_cons (pv 1) pa_nil))) pa_nil)) (nomark _))
  (pss_one (ps_ret pe_bl))
  pss_nil)))
  pss_nil)
  (pss_one (ps_ret (pe_or (pe_cmpR op_eq (pv 2) pe_int (nomark _)) (pe_one (pe_cmpR (op_eqD hr.units) (pe_call (ok_effect_of_remove T) hr (by rfl) T.g_effect_of_remove T.F_effect_of_remove.kp T.b_effect_of_remove .nil pass0 (pa_cons (pv 0) (pa_cons (pv 1) (pa_cons (pe_op op_sub (pv 2) pe_int) pa_nil)))) (pe_op op_rep (pe_lst (pa_cons pe_int pa_nil)) (pe_op op_sub (pv 2) pe_int)) (nomark _)))))))), ?_⟩
    refine ⟨.ref b, rfl, b, _, rfl, .inl (SqL.of eb), ?_⟩
    rw [List.length_map]
    refine setK51 ?_
    dsimp only
    refine stJ (fun σ' H' => σ' = [some (.ref a), some (.ref b), some (.int hs.length)] ∧ Same H H') (fun k hk => ?_) (fun σ' H1 h => ?_)
    · -- a card more at the end
      refine ⟨.int hs.length, rfl, hs.length, 200, rfl, rfl, _, rfl, ite2 (fun hlt => ?_) (fun _ => hk _ _ ⟨rfl, Same.refl _⟩)⟩
      have h199 : hs.length ≤ 199 := by have := of_decide_eq_true hlt; omega
      refine ⟨.ref a, rfl, .ref b, rfl, .int hs.length, rfl, a, b, hs.length, 7, cs, hs, rfl, SqL.of ea, SqL.of eb, st, cd, h199, Nat.le_refl _, by decide, by decide, fun H1 p s1 np ep => ?_⟩
      refine ⟨(by show 1 ≤ sizeLine; decide), fun p1 n1 => ⟨.int hs.length, rfl, rep0 upd_same (by omega) fun p2 n2 => ?_⟩⟩
      have s2 := (same_new (H := H1) (p := p1) (.lst [.int 0]) n1).trans (same_new (.lst ((List.replicate hs.length (0 : Int)).map V.int)) n2)
      rw [eff_ins_end] at ep
      refine ⟨_, _, .lst (SqL.of (s2 _ _ ep)) (dpInts _), .lst (SqL.of upd_same) (dpInts _), shapedInts _, shapedInts _, _, rfl, ite_f (by rw [eqL, decide_eq_true rfl]; decide) ?_⟩
      have S2 := s1.trans s2
      generalize upd (upd H1 p1 _) p2 _ = H2 at S2 ⊢
      -- its top is the lowest column
      have e7 : IsCards (hs ++ [7]) := ⟨by rw [List.length_append]; simp only [List.length_cons, List.length_nil]; omega, fun n hn => by
        rcases List.mem_append.mp hn with z | z
        · exact cd.all n z
        · rw [List.mem_singleton.mp z]; exact ⟨by decide, by decide⟩⟩
      refine ⟨.ref a, rfl, .ref b, rfl, (by show 1 ≤ sizeLine; decide), fun p3 n3 => ?_⟩
      have s3 := same_new (H := H2) (p := p3) (.lst [.int 7]) n3
      refine ⟨b, p3, _, _, rfl, rfl, s3 _ _ (S2 _ _ eb), upd_same, small_le (m := 1000) (by rw [List.length_map]; simp only [List.length_cons, List.length_nil]; omega) (by decide), fun p4 n4 => ?_⟩
      have s4 := s3.trans (same_new (.lst (hs.map V.int ++ [.int 7])) n4)
      refine ⟨a, p4, cs, hs ++ [7], rfl, SqL.of (s4 _ _ (S2 _ _ ea)), SqL.of (by rw [upd_same, List.map_append]; rfl), st, e7, fun H5 p5 s5 n5 e5 => ?_⟩
      rw [tops_snoc, List.map_append] at e5
      refine ⟨1, rfl, p5, _, -1, .int (mn (ends cs hs)), rfl, rfl, SqL.of e5, atI_last _ _, ?_⟩
      have S5 := S2.trans (s4.trans s5)
      refine ⟨.ref a, rfl, .ref b, rfl, a, b, cs, hs, rfl, SqL.of (S5 _ _ ea), SqL.of (S5 _ _ eb), st, cd, fun H6 p6 s6 n6 e6 => ?_⟩
      have en := ends_ne hs cs st.ne
      refine ⟨p6, _, rfl, SqL.of e6, List.length_pos_iff.mpr en, fun m hm hl => ⟨rfl, _, rfl, ite_f ?_ (hk _ _ ⟨rfl, S5.trans s6⟩)⟩⟩
      have m1 := mn_spec en
      have : mn (ends cs hs) = m := Int.le_antisymm (m1.2 m hm) (hl _ m1.1)
      rw [this]
      simp
    · obtain ⟨rfl, s1⟩ := h
      refine ⟨.int hs.length, rfl, rfl, _, rfl, ite2 (fun _ => q _ s1) (fun hne => ?_)⟩
      have hn0 : hs ≠ [] := fun z => by
        rw [z] at hne
        exact absurd hne (by decide)
      obtain ⟨is, x, rfl⟩ : ∃ is x, hs = is ++ [x] := ⟨hs.dropLast, hs.getLast hn0, (List.dropLast_concat_getLast hn0).symm⟩
      have li : (is ++ [x]).length = is.length + 1 := by rw [List.length_append]; rfl
      have ei : (((is ++ [x]).length : Nat) : Int) - 1 = (is.length : Int) := by omega
      refine ⟨.ref a, rfl, .ref b, rfl, .int (is ++ [x]).length, rfl, (is ++ [x]).length, 1, rfl, rfl, a, b, is.length, cs, is ++ [x], by rw [← ei]; rfl, SqL.of (s1 _ _ ea), SqL.of (s1 _ _ eb), st, cd, by omega, fun H2 p s2 np ep => ?_⟩
      refine ⟨(by show 1 ≤ sizeLine; decide), fun p1 n1 => ⟨.int (is ++ [x]).length, rfl, (is ++ [x]).length, 1, rfl, rfl, ?_⟩⟩
      show rRep (.ref p1) (.int ((((is ++ [x]).length : Nat) : Int) - 1)) _ _
      rw [ei]
      refine rep0 upd_same (by omega) fun p2 n2 => ?_
      have s3 := (same_new (H := H2) (p := p1) (.lst [.int 0]) n1).trans (same_new (.lst ((List.replicate is.length (0 : Int)).map V.int)) n2)
      rw [eff_rem_end] at ep
      refine ⟨_, _, .lst (SqL.of (s3 _ _ ep)) (dpInts _), .lst (SqL.of upd_same) (dpInts _), shapedInts _, shapedInts _, ?_⟩
      rw [eqL, decide_eq_true rfl]
      exact q _ (s1.trans (s2.trans s3))
end

section
variable {P : Program} {w : World} {K : PySem.W.Frag} {mg : Str → Option Value} {base : Heap}
def kvZ : List Int → List Int → List (Key × V)
  | n :: ns, t :: ts => (.inl n, .int t) :: kvZ ns ts
  | _, _ => []
theorem merge_off {n : Int} : ∀ (ns ts : List Int) (kvs : List (Key × V)), n ∉ ns → valV (mergeK kvs (kvZ ns ts)) (.inl n) = valV kvs (.inl n)
  | [], _, _, _ => by simp [kvZ, mergeK]
  | _ :: _, [], _, _ => by simp [kvZ, mergeK]
  | m :: ns, t :: ts, kvs, h => by
    show valV (mergeK (putK kvs (.inl m) (.int t)) (kvZ ns ts)) (.inl n) = _
    rw [merge_off ns ts _ fun z => h (List.mem_cons_of_mem _ z), valV_put, if_neg fun z => h (by cases z; exact List.mem_cons_self)]
theorem merge_kn : ∀ (ns ts : List Int) (kvs : List (Key × V)), ns.length = ts.length → ns.Nodup → Kn (mergeK kvs (kvZ ns ts)) ns ts
  | [], [], _, _, _ => ⟨rfl, fun i n t e => by cases e⟩
  | m :: ns, u :: ts, kvs, hl, nd => by
    have nd' := List.nodup_cons.mp nd
    have ih := merge_kn ns ts (putK kvs (.inl m) (.int u)) (by simpa using hl) nd'.2
    refine ⟨hl, fun i n t e1 e2 => ?_⟩
    cases i with
    | zero =>
      cases e1; cases e2
      show valV (mergeK (putK kvs (.inl m) (.int u)) (kvZ ns ts)) (.inl m) = _
      rw [merge_off ns ts _ nd'.1, valV_put, if_pos rfl]
    | succ i => exact ih.2 i n t (by simpa using e1) (by simpa using e2)
theorem merge_le : ∀ (ns ts : List Int) (kvs : List (Key × V)), (mergeK kvs (kvZ ns ts)).length ≤ kvs.length + ns.length
  | [], _, _ => by simp [kvZ, mergeK]
  | _ :: _, [], _ => by simp [kvZ, mergeK]
  | m :: ns, t :: ts, kvs => by
    have ih := merge_le ns ts (putK kvs (.inl m) (.int t))
    have l := put_le kvs (.inl m) (.int t)
    show (mergeK (putK kvs (.inl m) (.int t)) (kvZ ns ts)).length ≤ _
    rw [List.length_cons]
    omega
theorem pair_kvZ {H : Hp} : ∀ (as : List Addr) (ns ts : List Int), as.length = ns.length → ns.length = ts.length →
    (∀ (j : Nat) (t : Addr), as[j]? = some t → ∃ x y, (ns.map V.int)[j]? = some x ∧ (ts.map V.int)[j]? = some y ∧ H t = some (.tup [x, y])) → Paired (fun p kv => SqT K H p [kV kv.1, kv.2]) as (kvZ ns ts)
  | [], [], [], _, _, _ => .nil
  | a :: as, n :: ns, t :: ts, h1, h2, h => by
    refine .cons ?_ (pair_kvZ as ns ts (by simpa using h1) (by simpa using h2) fun j t e => by
      obtain ⟨x, y, e1, e2, e3⟩ := h (j + 1) t (by simpa using e)
      exact ⟨x, y, by simpa using e1, by simpa using e2, e3⟩)
    obtain ⟨x, y, e1, e2, e3⟩ := h 0 a rfl
    cases e1; cases e2
    exact SqT.of e3
def rgI (n : Nat) : List Int := (List.range n).map fun i => ((i : Nat) : Int)
theorem rg_eq (n : Nat) : rgV 0 (n : Int) = (rgI n).map V.int := by
  unfold rgV rgI
  rw [List.map_map, Int.sub_zero, Int.toNat_natCast]
  exact List.map_congr_left fun i _ => by simp
theorem rg_len (n : Nat) : (rgI n).length = n := by unfold rgI; rw [List.length_map, List.length_range]
theorem rg_nd (n : Nat) : (rgI n).Nodup := List.pairwise_map.mpr (List.nodup_range.imp fun h e => h (by omega))
theorem rg_lt {n : Nat} {m : Int} (h : m ∈ rgI n) : m < n := by
  obtain ⟨i, hi, rfl⟩ := List.mem_map.mp h
  have := List.mem_range.mp hi
  omega
theorem later_cards {hs : List Int} {ch : Ch} (cd : IsCards hs) (ok : ch.ok hs.length) : IsCards (ch.later hs) := by
  have l := cd.len
  cases ch with
  | ins s x => exact cd.ins ok.1 ok.2.1 ok.2.2.1 ok.2.2.2
  | rem s x => exact cd.del ok
  | mov s t =>
    have h0 : s < hs.length := ok.1
    have b := cd.all _ (List.mem_of_getElem? (gat h0))
    exact (cd.del h0).ins (by rw [delAt_len h0]; have : t < hs.length := ok.2; omega) (by rw [delAt_len h0]; omega) b.1 b.2
  | str s x =>
    have h0 : s < hs.length := ok.1
    exact (cd.del h0).ins (by rw [delAt_len h0]; omega) (by rw [delAt_len h0]; omega) ok.2.1 ok.2.2
  | exc s x =>
    have h0 : s + 1 < hs.length := ok
    have h1 : s < hs.length := by omega
    have b := cd.all _ (List.mem_of_getElem? (gat h1))
    exact (cd.del h1).ins (by rw [delAt_len h1]; omega) (by rw [delAt_len h1]; omega) b.1 b.2
theorem new_lt {hs : List Int} {ch : Ch} (ok : ch.ok hs.length) : ∀ s, ch.new = some s → s < (ch.later hs).length := by
  cases ch with
  | ins s x => intro u hu; cases hu; show s < (insAt hs s x).length; rw [insAt_len ok.1]; have : s ≤ hs.length := ok.1; omega
  | rem s x => intro u hu; cases hu
  | mov s t => intro u hu; cases hu; have h0 : s < hs.length := ok.1; have h1 : t < hs.length := ok.2; show t < (insAt (delAt hs s) t _).length; rw [insAt_len (by rw [delAt_len h0]; omega), delAt_len h0]; omega
  | str s x => intro u hu; cases hu
  | exc s x => intro u hu; cases hu
def spLaw (K : PySem.W.Frag) : Sp := fun vs H Q _ => ∃ (a : Addr) (ns : List Int), vs = [.ref a] ∧ Scr K H a (ns.map V.int) ∧ ns.length ≤ 63 ∧ ∀ H', Q (.bl true) H'
set_option maxHeartbeats 8000000 in
theorem ok_law (T : Txt K mg) : FnOk P w K mg base CX0 10 T.a_law T.d_law ["script"] (spLaw K) := by
  refine T.F_law.ok sc_law (fun vs H Q E h => ?_) (fun cdv A outer s H vs Q E hr h => ?_)
  · obtain ⟨a, ns, rfl, _⟩ := h; rfl
  · obtain ⟨a, ns, rfl, hS, hl, q⟩ := h
    refine ⟨_, (pss_cons (ps_for PassesOwn.never rfl (pi_range1 (by rfl) T.z_range (pa_cons (pe_callB (call_max2 rfl) (by rfl) T.z_max (by decide +kernel) (pa_cons pe_int (pa_cons (pe_callB (call_min2 rfl) (by rfl) T.z_min (by decide +kernel) (pa_cons pe_int (pa_cons (pe_callB call_len_seq (by rfl) T.z_len (by decide +kernel) (pa_cons (pv 0) pa_nil)) pa_nil))) pa_nil))) pa_nil)) (pg_name (i := 1) sc_law.nd rfl (.inl rfl))
  (pss_cons (ps_set (i := 2) sc_law.nd rfl (.inl rfl) (pe_call (ok_law_open_source T) (hr.mono (by decide)) (by rfl) T.g_law_open_source T.F_law_open_source.kp T.b_law_open_source .nil pass0 (pa_cons (pv 0) (pa_cons (pv 1) pa_nil))))
  (pss_cons (ps_par (i := 3) (j := 4) rfl sc_law.nd rfl rfl (by decide) rfl rfl (pa_cons (pe_call (ok_law_columns T) (hr.mono (by decide)) (by rfl) T.g_law_columns T.F_law_columns.kp T.b_law_columns .nil pass0 (pa_cons (pv 2) (pa_cons (pv 0) pa_nil))) (pa_cons (pe_call (ok_law_cards T) (hr.mono (by decide)) (by rfl) T.g_law_cards T.F_law_cards.kp T.b_law_cards .nil pass0 (pa_cons (pv 2) (pa_cons (pv 0) (pa_cons pe_int pa_nil)))) pa_nil)) (by rfl))
  (pss_cons (ps_set (i := 5) sc_law.nd rfl (.inl rfl) (pe_listRg rfl (by rfl) T.z_list (prg_1 (by rfl) T.z_range (pe_callB call_len_seq (by rfl) T.z_len (by decide +kernel) (pa_cons (pv 4) pa_nil)))))
  (pss_cons (ps_set (i := 6) sc_law.nd rfl (.inr rfl) (pe_callTy (call_dictP rfl) (by rfl) T.z_dict (by decide +kernel) (pa_cons (pe_listZip rfl (by rfl) T.z_list (by decide +kernel) (by rfl) T.z_zip (pa_cons (pv 5) (pa_cons (pe_call (ok_tops_of T) (hr.mono (by decide)) (by rfl) T.g_tops_of T.F_tops_of.kp T.b_tops_of .nil pass0 (pa_cons (pv 3) (pa_cons (pv 4) pa_nil))) pa_nil))) pa_nil)))
  (pss_cons (ps_for PassesOwn.never rfl (pi_range1 (by rfl) T.z_range (pa_cons pe_int pa_nil)) (pg_name (i := 7) sc_law.nd rfl (.inl rfl))
  (pss_cons (ps_set (i := 8) sc_law.nd rfl (.inl rfl) (pe_call (ok_law_change T) (hr.mono (by decide)) (by rfl) T.g_law_change T.F_law_change.kp T.b_law_change .nil pass0 (pa_cons (pv 2) (pa_cons (pv 4) pa_nil))))
  (pss_cons (ps_asg (pe_call (ok_law_edited T) (hr.mono (by decide)) (by rfl) T.g_law_edited T.F_law_edited.kp T.b_law_edited .nil pass0 (pa_cons (pe_ix ix_list (pv 8) pe_int (fun _ _ => rfl)) (pa_cons (pv 4) (pa_cons (pe_ix ix_list (pv 8) pe_int (fun _ _ => rfl)) (pa_cons (pe_ix ix_list (pv 8) pe_int (fun _ _ => rfl)) pa_nil))))) (pg_tup rfl (pgs_cons (pg_name (i := 9) sc_law.nd rfl (.inl rfl)) (pgs_cons (pg_name (i := 10) sc_law.nd rfl (.inr rfl)) (pgs_cons (pg_name (i := 11) sc_law.nd rfl (.inr rfl)) pgs_nil)))))
  (pss_cons (ps_par (i := 12) (j := 13) rfl sc_law.nd rfl rfl (by decide) rfl rfl (pa_cons (pe_call (ok_tops_of T) (hr.mono (by decide)) (by rfl) T.g_tops_of T.F_tops_of.kp T.b_tops_of .nil pass0 (pa_cons (pv 3) (pa_cons (pv 4) pa_nil))) (pa_cons (pe_call (ok_tops_of T) (hr.mono (by decide)) (by rfl) T.g_tops_of T.F_tops_of.kp T.b_tops_of .nil pass0 (pa_cons (pv 3) (pa_cons (pv 9) pa_nil))) pa_nil)) (by rfl))
  (pss_cons (ps_set (i := 14) sc_law.nd rfl (.inl rfl) (pe_call (ok_law_told T) (hr.mono (by decide)) (by rfl) T.g_law_told T.F_law_told.kp T.b_law_told .nil pass0 (pa_cons (pv 3) (pa_cons (pv 4) (pa_cons (pv 8) pa_nil)))))
  (pss_cons (ps_setLc (i := 15) (own := [("spot", 17), ("top", 18)]) (g := (gTup K 2 (gCons (gName 17) (gCons (gName 18) gNil)))) rfl sc_law.nd rfl rfl (sw_true rfl rfl rfl (by decide +kernel)) (pi_enum (by rfl) T.z_enumerate (pa_cons (pv 12) pa_nil)) (blkOk_by (own := [("spot", 17), ("top", 18)]) (N := nm_law) (sc := defScope s_law) (by decide +kernel)) (fun _ _ _ _ _ => (pg_tup rfl (pgs_cons (pg_name (i := 17) sc_law.nd rfl (.inl rfl)) (pgs_cons (pg_name (i := 18) sc_law.nd rfl (.inl rfl)) pgs_nil)))) (fun _ _ _ _ _ => (pts_one (pt_cmpR op_ne (pv 17) (pv 10) (nomark _)))) (fun _ _ _ _ _ => (pv 18)))
  (pss_cons (ps_setLc (i := 16) (own := [("spot", 17), ("top", 18)]) (g := (gTup K 2 (gCons (gName 17) (gCons (gName 18) gNil)))) rfl sc_law.nd rfl rfl (sw_true rfl rfl rfl (by decide +kernel)) (pi_enum (by rfl) T.z_enumerate (pa_cons (pv 13) pa_nil)) (blkOk_by (own := [("spot", 17), ("top", 18)]) (N := nm_law) (sc := defScope s_law) (by decide +kernel)) (fun _ _ _ _ _ => (pg_tup rfl (pgs_cons (pg_name (i := 17) sc_law.nd rfl (.inl rfl)) (pgs_cons (pg_name (i := 18) sc_law.nd rfl (.inl rfl)) pgs_nil)))) (fun _ _ _ _ _ => (pts_one (pt_cmpR op_ne (pv 17) (pv 11) (nomark _)))) (fun _ _ _ _ _ => (pv 18)))
  (pss_cons (ps_if (pt_cmpR (op_neD hr.units) (pe_lc (own := [("low", 19), ("high", 20)]) (g := (gTup K 2 (gCons (gName 19) (gCons (gName 20) gNil)))) rfl sc_law.nd (pi_zip (by rfl) T.z_zip (pa_cons (pv 15) (pa_cons (pv 14) pa_nil))) (blkOk_by (own := [("low", 19), ("high", 20)]) (N := nm_law) (sc := defScope s_law) (by decide +kernel)) (fun _ _ _ _ _ => (pg_tup rfl (pgs_cons (pg_name (i := 19) sc_law.nd rfl (.inl rfl)) (pgs_cons (pg_name (i := 20) sc_law.nd rfl (.inl rfl)) pgs_nil)))) (fun _ _ _ _ _ => pts_nil) (fun _ _ _ _ _ => (pe_op op_add (pv 19) (pv 20)))) (pv 16) (nomark _))
  (pss_one (ps_ret pe_bl))
  pss_nil)
  (pss_one (ps_if (pt_cmpR op_lt (pe_ix ix_list (pv 8) pe_int (fun _ _ => rfl)) pe_int (nomark _))
  (pss_cons (ps_set (i := 5) sc_law.nd rfl (.inl rfl) (pe_call (ok_law_followed T) (hr.mono (by decide)) (by rfl) T.g_law_followed T.F_law_followed.kp T.b_law_followed .nil pass0 (pa_cons (pv 6) (pa_cons (pv 5) (pa_cons (pv 8) (pa_cons (pv 14) (pa_cons (pv 13) (pa_cons (pe_op op_add pe_int (pv 7)) pa_nil))))))))
  (pss_one (ps_set (i := 4) sc_law.nd rfl (.inl rfl) (pv 9))))
  pss_nil))))))))))
  (pss_cons (ps_if (pt_cmpR (op_neD hr.units) (pe_lc (own := [("name", 21)]) rfl sc_law.nd (pi_list (pv 5)) (blkOk_by (own := [("name", 21)]) (N := nm_law) (sc := defScope s_law) (by decide +kernel)) (fun _ _ _ _ _ => (pg_name (i := 21) sc_law.nd rfl (.inl rfl))) (fun _ _ _ _ _ => pts_nil) (fun _ _ _ _ _ => (pe_dget (room1 hr) (pv 6) (pv 21) (fun _ _ => rfl)))) (pe_call (ok_tops_of T) (hr.mono (by decide)) (by rfl) T.g_tops_of T.F_tops_of.kp T.b_tops_of .nil pass0 (pa_cons (pv 3) (pa_cons (pv 4) pa_nil))) (nomark _))
  (pss_one (ps_ret pe_bl))
  pss_nil)
  (pss_one (ps_if (pt_not (pt_val (pe_call (ok_law_ends_right T) (hr.mono (by decide)) (by rfl) T.g_law_ends_right T.F_law_ends_right.kp T.b_law_ends_right .nil pass0 (pa_cons (pv 3) (pa_cons (pv 4) pa_nil)))))
  (pss_one (ps_ret pe_bl))
  pss_nil)))))))))
  (pss_one (ps_ret pe_bl))), ?_⟩
    refine ⟨.ref a, rfl, a, _, rfl, .inl hS.sq, 5, _, rfl, 1, _, rfl, _, rfl, ?_⟩
    rw [List.length_map]
    generalize hN : (if (if ((ns.length : Nat) : Int) < 5 then ((ns.length : Nat) : Int) else 5) > 1 then (if ((ns.length : Nat) : Int) < 5 then ((ns.length : Nat) : Int) else 5) else 1) = N
    have hN2 : 0 ≤ N ∧ N ≤ 5 := by
      rw [← hN]
      split <;> split <;> omega
    refine ⟨by omega, by omega, ?_⟩
    refine for_range (lo := 0) (n := N.toNat) (fun i σ H1 => ∃ y1 y2 y3 y4 y5 y6 y7 y8 y9 y10 y11 y12 y13 y14 y15 y16 y17 y18 y19 y20 y21, σ = [some (.ref a), y1, y2, y3, y4, y5, y6, y7, y8, y9, y10, y11, y12, y13, y14, y15, y16, y17, y18, y19, y20, y21] ∧ Same H H1)
      ⟨none, none, none, none, none, none, none, none, none, none, none, none, none, none, none, none, none, none, none, none, none, rfl, Same.refl H⟩ (fun i σ H1 hi h => ?_) (fun σ H1 h => ?_)
    · obtain ⟨y1, y2, y3, y4, y5, y6, y7, y8, y9, y10, y11, y12, y13, y14, y15, y16, y17, y18, y19, y20, y21, rfl, sm⟩ := h
      refine ⟨.ref a, rfl, .int (0 + i), rfl, a, i, ns, by rw [Int.zero_add]; rfl, (hS.same sm).sq, fun p H2 np s2 P2 => ?_⟩
      have S2 := sm.trans s2
      have npH : H p = none := sm.free np
      refine ⟨.ref p, rfl, .ref a, rfl, p, a, _, ns, rfl, P2, by omega, hS.same S2, fun b H4 cs nb b4 P4 eb st => ?_⟩
      have S4 : Same H H4 := same_but S2 npH b4
      have nbp : b ≠ p := P2.ne nb
      refine ⟨.ref p, rfl, .ref a, rfl, p, a, _, 200, ns, rfl, by decide, by decide, P4, by omega, hS.same S4, fun f H5 hs nf b5 P5 ef lf cd => ⟨_, _, rfl, ?_⟩⟩
      have S5 : Same H H5 := same_but S4 npH b5
      have nfp : f ≠ p := P4.ne nf
      have eb5 := b5 _ _ nbp eb
      -- the names
      refine ⟨.ref f, rfl, f, _, rfl, .inl (SqL.of ef), _, rfl, RgOk.of_le (by decide) (by rw [List.length_map]; omega) (by decide) (by rw [List.length_map]; omega), fun l nl => ?_⟩
      rw [List.length_map, rg_eq] at *
      have s6 := same_new (H := H5) (p := l) (.lst ((rgI hs.length).map V.int)) nl
      have el : (upd H5 l (.lst ((rgI hs.length).map V.int))) l = some (.lst ((rgI hs.length).map V.int)) := upd_same
      have nlp : l ≠ p := P5.ne nl
      generalize upd H5 l _ = H6 at s6 el ⊢
      have eb6 := s6 _ _ eb5
      have ef6 := s6 _ _ ef
      have P6 := P5.same s6
      have S6 := S5.trans s6
      -- what is known
      refine ⟨.ref l, rfl, .ref b, rfl, .ref f, rfl, b, f, cs, hs, rfl, SqL.of eb6, SqL.of ef6, st, cd, fun H7 t s7 nt et => ?_⟩
      refine ⟨l, t, _, _, rfl, SqL.of (s7 _ _ el), SqL.of et, by rw [List.length_map, List.length_map, rg_len, tops_len], fun H8 z ts s8 nz nts ez lts row => ?_⟩
      rw [List.length_map] at lts
      refine ⟨z, ts, kvZ (rgI hs.length) (tops cs hs), rfl, SqL.of ez, pair_kvZ _ _ _ lts (by rw [rg_len, tops_len]) row, fun D nD => ?_⟩
      have s9 := same_new (H := H8) (p := D) (.dK (mergeK [] (kvZ (rgI hs.length) (tops cs hs)))) nD
      have kn0 := merge_kn (rgI hs.length) (tops cs hs) [] (by rw [rg_len, tops_len]) (rg_nd _)
      have kl0 := merge_le (rgI hs.length) (tops cs hs) []
      rw [rg_len] at kl0
      have eD : (upd H8 D (.dK (mergeK [] (kvZ (rgI hs.length) (tops cs hs))))) D = some (.dK (mergeK [] (kvZ (rgI hs.length) (tops cs hs)))) := upd_same
      have s68 := s7.trans s8
      have nDH : H D = none := (S6.trans s68).free nD
      have nDp : D ≠ p := (P6.same s68).ne nD
      generalize mergeK [] (kvZ (rgI hs.length) (tops cs hs)) = kvs at s9 kn0 kl0 eD ⊢
      generalize upd H8 D (.dK kvs) = H9 at s9 eD ⊢
      have s69 := s68.trans s9
      refine ⟨12, rfl, by decide, by decide, ?_⟩
      refine for_range (lo := 0) (n := 12) (fun j σ H1 => ∃ ff ll kvs hs ns y7 y8 y9 y10 y11 y12 y13 y14 y15 y16 y17 y18 y19 y20 y21, σ = [some (.ref a), some (.int (0 + i)), some (.ref p), some (.ref b), some (.ref ff), some (.ref ll), some (.ref D), y7, y8, y9, y10, y11, y12, y13, y14, y15, y16, y17, y18, y19, y20, y21] ∧ Same H H1 ∧ Src H1 p (2500 + 10 * j) ∧
          H1 b = some (.lst (cs.map V.int)) ∧ H1 ff = some (.lst (List.map V.int hs)) ∧ H1 ll = some (.lst (List.map V.int ns)) ∧ H1 D = some (.dK kvs) ∧ ff ≠ p ∧ ll ≠ p ∧ IsCards hs ∧ Kn kvs ns (tops cs hs) ∧ ns.Nodup ∧ (∀ n ∈ ns, n < 1000 + j) ∧ kvs.length ≤ 200 + 300 * j)
        ⟨f, l, kvs, hs, rgI hs.length, _, _, _, _, _, _, _, _, _, _, _, _, _, _, _, rfl, S6.trans s69, (P6.same s69).mono (by omega), s69 _ _ eb6, s69 _ _ ef6, s69 _ _ el, eD, nfp, nlp, cd, kn0, rg_nd _, fun n hn => by have := rg_lt hn; have := cd.len; omega, by have := cd.len; simp only [List.length_nil] at kl0; omega⟩ (fun j σ H1 hj h => ?_) (fun σ H1 h => ?_)
      · clear ef ef6 cd kn0 kl0 eD el lts row et ez
        obtain ⟨ff, ll, kvs, hs, ns', y7, y8, y9, y10, y11, y12, y13, y14, y15, y16, y17, y18, y19, y20, y21, rfl, S, PS, eb, ef, el, eD, nfp, nlp, cd, kn, nd, nlt, lk⟩ := h
        have lh := cd.len
        -- change
        refine ⟨.ref p, rfl, .ref ff, rfl, p, ff, _, hs, rfl, PS, by omega, ef, lh, fun c Ha ch nc ba Pa ec okc => ?_⟩
        refine setK51 ?_
        simp only [List.set_cons_succ, List.set_cons_zero]
        have Sa := same_but S npH ba
        have ncp := PS.ne nc
        have efa := ba _ _ nfp ef
        have eba := ba _ _ nbp eb
        have ela := ba _ _ nlp el
        have eDa := ba _ _ nDp eD
        have ec2 := ec
        rw [ch.enc_eq] at ec2
        -- edited
        refine ⟨.ref c, rfl, c, _, 0, _, rfl, rfl, SqL.of ec2, rfl, .ref ff, rfl, .ref c, rfl, c, _, 1, _, rfl, rfl, SqL.of ec2, rfl, .ref c, rfl, c, _, 2, _, rfl, rfl, SqL.of ec2, rfl, ?_⟩
        refine ⟨ff, hs, ch, rfl, SqL.of efa, by omega, okc, fun Hb t2 l2 sb nl2 et el2 => ?_⟩
        refine ⟨t2, [_, _, _], rfl, SqT.of et, rfl, _, [_, _], rfl, _, [_], rfl, _, [], rfl, rfl, ?_⟩
        have cdl := later_cards cd okc
        have ll2 := cdl.len
        have lg := (later_len okc).2
        have n2p := Pa.ne nl2
        -- before, after
        refine ⟨.ref b, rfl, .ref ff, rfl, b, ff, cs, hs, rfl, SqL.of (sb _ _ eba), SqL.of (sb _ _ efa), st, cd, fun Hc f1 sc n1 e1 => ?_⟩
        have sbc := sb.trans sc
        refine ⟨.ref b, rfl, .ref l2, rfl, b, l2, cs, ch.later hs, rfl, SqL.of (sbc _ _ eba), SqL.of (sc _ _ el2), st, cdl, fun Hd f2 sd n2 e2 => ⟨_, _, rfl, ?_⟩⟩
        have sbd := sbc.trans sd
        -- found
        refine ⟨.ref b, rfl, .ref ff, rfl, .ref c, rfl, b, ff, c, cs, hs, ch, rfl, SqL.of (sbd _ _ eba), SqL.of (sbd _ _ efa), sbd _ _ ec, st, cd, okc, fun He r se nr er => ?_⟩
        have sbe := sbd.trans se
        have e1e := (sd.trans se) _ _ e1
        have e2e := se _ _ e2
        have ele := (sc.trans (sd.trans se)) _ _ el2
        clear e1 e2 el2 et sc sd se n1 n2 nr nl2 sbc sbd
        simp only [List.set_cons_succ, List.set_cons_zero]
        -- old
        refine ⟨.ref f1, rfl, f1, _, rfl, SqL.of e1e, fun D1 nD1 => ?_⟩
        refine lc_enum (K := K) (a := f1) (D := D1) (xs := (tops cs hs).map V.int) (fun i H' => Same He H' ∧ H' D1 = some (.lst ((delO ch.gone ((tops cs hs).take i)).map V.int))) ⟨same_new _ nD1, ?_⟩ (fun i H' _ h => SqL.of (h.1 _ _ e1e)) (fun i x H' Tp ex h nT => ?_) (fun Hf hf => ?_)
        · rw [upd_same]; cases ch.gone <;> simp [delO, delAt]
        · obtain ⟨x1, ex1, rfl⟩ := get_map ex
          have sT := same_new (H := H') (p := Tp) (.tup [.int i, .int x1]) nT
          refine ⟨Tp, [_, _], rfl, SqT.of upd_same, rfl, _, [_], rfl, _, [], rfl, rfl, rfl, ?_⟩
          refine ⟨.int i, rfl, gV ch.gone, rfl, gV_scal _ _, _, rfl, ?_⟩
          by_cases hg : ch.gone = some i
          · exact ite_f (by rw [decide_eq_true (gV_ne.mpr hg)]; decide) ⟨h.1.trans sT, by rw [(delO_step ex1).1 hg]; exact sT _ _ h.2⟩
          · refine ite_t (by rw [decide_eq_false (fun z => hg (gV_ne.mp z))]; rfl) ⟨.int x1, rfl, _, sT _ _ h.2, ?_, same_set (h.1.trans sT) nD1, ?_⟩
            · rw [List.length_map]
              refine small_of (m := 1000) ?_ (by decide)
              have := delO_len ch.gone ((tops cs hs).take i)
              have h2 : ((tops cs hs).take i).length ≤ hs.length := by rw [List.length_take, tops_len]; exact Nat.min_le_right _ _
              omega
            · rw [upd_same, (delO_step ex1).2 hg, List.map_append]; rfl
        have eo := hf.2
        rw [List.length_map, List.take_length] at eo
        have sf := hf.1
        clear hf
        have e2f := sf _ _ e2e
        -- kept
        refine ⟨.ref f2, rfl, f2, _, rfl, SqL.of e2f, fun D2 nD2 => ?_⟩
        refine lc_enum (K := K) (a := f2) (D := D2) (xs := (tops cs (ch.later hs)).map V.int) (fun i H' => Same Hf H' ∧ H' D2 = some (.lst ((delO ch.new ((tops cs (ch.later hs)).take i)).map V.int))) ⟨same_new _ nD2, ?_⟩ (fun i H' _ h => SqL.of (h.1 _ _ e2f)) (fun i x H' Tp ex h nT => ?_) (fun Hg hg => ?_)
        · rw [upd_same]; cases ch.new <;> simp [delO, delAt]
        · obtain ⟨x1, ex1, rfl⟩ := get_map ex
          have sT := same_new (H := H') (p := Tp) (.tup [.int i, .int x1]) nT
          refine ⟨Tp, [_, _], rfl, SqT.of upd_same, rfl, _, [_], rfl, _, [], rfl, rfl, rfl, ?_⟩
          refine ⟨.int i, rfl, gV ch.new, rfl, gV_scal _ _, _, rfl, ?_⟩
          by_cases hg : ch.new = some i
          · exact ite_f (by rw [decide_eq_true (gV_ne.mpr hg)]; decide) ⟨h.1.trans sT, by rw [(delO_step ex1).1 hg]; exact sT _ _ h.2⟩
          · refine ite_t (by rw [decide_eq_false (fun z => hg (gV_ne.mp z))]; rfl) ⟨.int x1, rfl, _, sT _ _ h.2, ?_, same_set (h.1.trans sT) nD2, ?_⟩
            · rw [List.length_map]
              refine small_of (m := 1000) ?_ (by decide)
              have := delO_len ch.new ((tops cs (ch.later hs)).take i)
              have h2 : ((tops cs (ch.later hs)).take i).length ≤ (ch.later hs).length := by rw [List.length_take, tops_len]; exact Nat.min_le_right _ _
              omega
            · rw [upd_same, (delO_step ex1).2 hg, List.map_append]; rfl
        have ek := hg.2
        rw [List.length_map, List.take_length] at ek
        have sg := hg.1
        clear hg
        have eo5 := sg _ _ eo
        have he : (delO ch.gone (tops cs hs)).length = (delO ch.new (tops cs (ch.later hs))).length := by
          rw [delO_lens (tops_len cs hs), delO_lens (tops_len cs (ch.later hs)), lg]
        have lo := delO_len ch.gone (tops cs hs)
        rw [tops_len] at lo
        have heff : (delO ch.gone (tops cs hs)).length = (ch.eff cs hs).length := by rw [eff_due, grow_len he]
        have hadd : addL (delO ch.gone (tops cs hs)) (ch.eff cs hs) = delO ch.new (tops cs (ch.later hs)) := by rw [eff_due, addL_grow he]
        have erg := (sf.trans sg) _ _ er
        -- the tops after it
        refine ⟨.ref D1, rfl, .ref r, rfl, D1, r, _, _, rfl, SqL.of eo5, SqL.of erg, fun D3 nD3 => ?_⟩
        refine lc_zip (K := K) (a := D1) (b := r) (xs := (delO ch.gone (tops cs hs)).map V.int) (ys := (ch.eff cs hs).map V.int) (by rw [List.length_map, List.length_map, heff]) (fun i H' => Same Hg H' ∧ H' D3 = some (.lst (((addL (delO ch.gone (tops cs hs)) (ch.eff cs hs)).take i).map V.int)))
          ⟨same_new _ nD3, upd_same⟩ (fun i H' _ h => ⟨SqL.of (h.1 _ _ eo5), SqL.of (h.1 _ _ erg)⟩) (fun i x y H' Tp ex ey h nT => ?_) (fun Hh hh => ?_)
        · obtain ⟨x1, e1, rfl⟩ := get_map ex
          obtain ⟨y1, e2, rfl⟩ := get_map ey
          have sT := same_new (H := H') (p := Tp) (.tup [.int x1, .int y1]) nT
          refine ⟨Tp, [_, _], rfl, SqT.of upd_same, rfl, _, [_], rfl, _, [], rfl, rfl, rfl, ?_⟩
          refine ⟨_, rfl, _, rfl, x1, y1, rfl, rfl, _, sT _ _ h.2, ?_, same_set (h.1.trans sT) nD3, ?_⟩
          · rw [List.length_map, List.length_take]
            refine small_of (m := 1000) ?_ (by decide)
            rw [addL_len heff]
            omega
          · rw [upd_same]
            exact congrArg (fun z => some (HO.lst z)) (take_map_succ V.int (addL_at e1 e2))
        have e3 := hh.2
        rw [List.length_map, ← addL_len heff, List.take_length] at e3
        have sh := hh.1
        clear hh
        refine ⟨.ref D2, rfl, _, _, .lst (SqL.of e3) (dpInts _), .lst (SqL.of (sh _ _ ek)) (dpInts _), shapedInts _, shapedInts _, _, rfl, ite_f (by rw [eqL, decide_eq_true hadd]; decide) ?_⟩
        have sz := sbe.trans (sf.trans (sg.trans sh))
        have szf := sf.trans (sg.trans sh)
        have ecz := sz _ _ ec2
        have Sz := Sa.trans sz
        have Pz := Pa.same sz
        refine ⟨.ref c, rfl, c, _, 0, _, rfl, rfl, SqL.of ecz, rfl, ch.kind, 4, rfl, rfl, _, rfl, ite2 (fun hlt => ?_) (fun _ => ?_)⟩
        · have kl := kn.1
          rw [tops_len] at kl
          refine ⟨.ref D, rfl, .ref ll, rfl, .ref c, rfl, .ref r, rfl, .ref f2, rfl, .int (0 + j), rfl, 1000, 0 + j, rfl, rfl, ?_⟩
          refine ⟨D, ll, c, r, f2, kvs, ns', tops cs hs, ch.eff cs hs, tops cs (ch.later hs), ch, 1000 + (0 + j), rfl, sz _ _ eDa, sz _ _ ela, sz _ _ ec, szf _ _ er, szf _ _ e2e, by omega, by omega, nd, fun z => by have := nlt _ z; omega, kn, by rw [kl]; exact okc, of_decide_eq_true hlt, heff, hadd, by rw [tops_len]; exact ll2, by rw [tops_len]; exact new_lt okc,
            fun Hk kvs2 ns2 pp bD eD2 ep hpp nd2 kn2 mem lk2 => ?_⟩
          refine ⟨.ref l2, rfl, ?_⟩
          have nL : ∀ {z : Addr} {xs : List V}, Hh z = some (.lst xs) → Hk z = some (.lst xs) := fun {z xs} e => bD z _ (fun y => by rw [y, sz _ _ eDa] at e; cases e) e
          refine ⟨l2, pp, kvs2, ch.later hs, ns2, _, _, _, _, _, _, _, _, _, _, _, _, _, _, _, rfl, same_but Sz nDH bD, ?_, nL (sz _ _ eba), nL (szf _ _ ele), ep, eD2, n2p, ?_, cdl, kn2, nd2, fun n hn => ?_, by omega⟩
          · obtain ⟨p0, p1, p2, e, z0, z1, z2, z3, z4⟩ := Pz
            exact ⟨p0, p1, p2, bD p _ nDp.symm e, z0, z1, z2, z3, by omega⟩
          · rcases hpp with z | z
            · rw [z]; exact nlp
            · exact Pz.ne z
          · rcases mem n hn with z | z
            · have := nlt n z; omega
            · omega
        · exact ⟨ff, ll, kvs, hs, ns', _, _, _, _, _, _, _, _, _, _, _, _, _, _, _, rfl, Sz, Pz.mono (by omega), sz _ _ eba, sz _ _ efa, sz _ _ ela, sz _ _ eDa, nfp, nlp, cd, kn, nd, fun n hn => by have := nlt n hn; omega, by omega⟩
      · clear ef ef6 cd kn0 kl0 eD el lts row et ez
        obtain ⟨ff, ll, kvs, hs, ns', y7, y8, y9, y10, y11, y12, y13, y14, y15, y16, y17, y18, y19, y20, y21, rfl, S, PS, eb, ef, el, eD, nfp, nlp, cd, kn, nd, nlt, lk⟩ := h
        have lh := cd.len
        have kl := kn.1
        rw [tops_len] at kl
        -- what is known of the names that stay
        refine ⟨.ref ll, rfl, ll, rfl, ⟨_, SqL.of el⟩, fun D1 nD1 => ?_⟩
        refine lc_list (K := K) (a := ll) (xs := ns'.map V.int) (fun k H' => Same H1 H' ∧ H' D1 = some (.lst (((tops cs hs).take k).map V.int))) ⟨same_new _ nD1, upd_same⟩ (fun k H' _ h => SqL.of (h.1 _ _ el)) (fun k x H' e h => ?_) (fun Ha ha => ?_)
        · obtain ⟨n, en, rfl⟩ := get_map e
          have hk := get_lt en
          obtain ⟨t, et⟩ : ∃ t, (tops cs hs)[k]? = some t := ⟨_, List.getElem?_eq_getElem (by rw [tops_len]; omega)⟩
          have dg := DGet.k (k := .inl n) (h.1 _ _ eD)
          rw [kn.2 k n t en et] at dg
          refine ⟨rfl, .ref D, rfl, .int n, rfl, D, _, rfl, dg, _, h.2, ?_, same_set h.1 nD1, ?_⟩
          · rw [List.length_map, List.length_take, tops_len]
            exact small_of (m := 1000) (by omega) (by decide)
          · rw [upd_same]
            exact congrArg (fun z => some (HO.lst z)) (take_map_succ V.int et)
        have ea := ha.2
        rw [List.length_map, kl, ← tops_len cs hs, List.take_length] at ea
        have sa := ha.1
        clear ha
        refine ⟨.ref b, rfl, .ref ff, rfl, b, ff, cs, hs, rfl, SqL.of (sa _ _ eb), SqL.of (sa _ _ ef), st, cd, fun Hb f1 sb n1 e1 => ?_⟩
        refine ⟨_, _, .lst (SqL.of (sb _ _ ea)) (dpInts _), .lst (SqL.of e1) (dpInts _), shapedInts _, shapedInts _, _, rfl, ite_f (by rw [eqL, decide_eq_true rfl]; decide) ?_⟩
        have sab := sa.trans sb
        refine ⟨.ref b, rfl, .ref ff, rfl, b, ff, cs, hs, rfl, sab _ _ eb, sab _ _ ef, st, cd, fun Hc sc => ⟨true, rfl, iteF ?_⟩⟩
        exact ⟨_, _, _, _, _, _, _, _, _, _, _, _, _, _, _, _, _, _, _, _, _, rfl, S.trans (sab.trans sc)⟩
    · obtain ⟨y1, y2, y3, y4, y5, y6, y7, y8, y9, y10, y11, y12, y13, y14, y15, y16, y17, y18, y19, y20, y21, rfl, sm⟩ := h
      exact q _
end

set_option maxHeartbeats 4000000 in
theorem all_mk {l : PySem.W.OpenLaw} {w : World} {K : PySem.W.Frag} {h : Heap} {mg : Str → Option Value} {fa : Addr}
  (X : K.In h) (G : h.Ns mainGlobals mg) (hfa : mg "law" = some (.ref fa))
  {od0 an0 : Option Addr} {sl0 : Array (Option Value)} {oc0 kV0 dc0 pm0 cd0 ct0 : Value} {f0 : Addr}
  {od1 an1 : Option Addr} {sl1 : Array (Option Value)} {oc1 kV1 dc1 pm1 cd1 ct1 : Value} {f1 : Addr}
  {od2 an2 : Option Addr} {sl2 : Array (Option Value)} {oc2 kV2 dc2 pm2 cd2 ct2 : Value} {f2 : Addr}
  {od3 an3 : Option Addr} {sl3 : Array (Option Value)} {oc3 kV3 dc3 pm3 cd3 ct3 : Value} {f3 : Addr}
  {od4 an4 : Option Addr} {sl4 : Array (Option Value)} {oc4 kV4 dc4 pm4 cd4 ct4 : Value} {f4 : Addr}
  {od5 an5 : Option Addr} {sl5 : Array (Option Value)} {oc5 kV5 dc5 pm5 cd5 ct5 : Value} {f5 : Addr}
  {od6 an6 : Option Addr} {sl6 : Array (Option Value)} {oc6 kV6 dc6 pm6 cd6 ct6 : Value} {f6 : Addr}
  {od7 an7 : Option Addr} {sl7 : Array (Option Value)} {oc7 kV7 dc7 pm7 cd7 ct7 : Value} {f7 : Addr}
  {od8 an8 : Option Addr} {sl8 : Array (Option Value)} {oc8 kV8 dc8 pm8 cd8 ct8 : Value} {f8 : Addr}
  {od9 an9 : Option Addr} {sl9 : Array (Option Value)} {oc9 kV9 dc9 pm9 cd9 ct9 : Value} {f9 : Addr}
  {od10 an10 : Option Addr} {sl10 : Array (Option Value)} {oc10 kV10 dc10 pm10 cd10 ct10 : Value} {f10 : Addr}
  {od11 an11 : Option Addr} {sl11 : Array (Option Value)} {oc11 kV11 dc11 pm11 cd11 ct11 : Value} {f11 : Addr}
  {od12 an12 : Option Addr} {sl12 : Array (Option Value)} {oc12 kV12 dc12 pm12 cd12 ct12 : Value} {f12 : Addr}
  {od13 an13 : Option Addr} {sl13 : Array (Option Value)} {oc13 kV13 dc13 pm13 cd13 ct13 : Value} {f13 : Addr}
  {od14 an14 : Option Addr} {sl14 : Array (Option Value)} {oc14 kV14 dc14 pm14 cd14 ct14 : Value} {f14 : Addr}
  {od15 an15 : Option Addr} {sl15 : Array (Option Value)} {oc15 kV15 dc15 pm15 cd15 ct15 : Value} {f15 : Addr}
  {od16 an16 : Option Addr} {sl16 : Array (Option Value)} {oc16 kV16 dc16 pm16 cd16 ct16 : Value} {f16 : Addr}
  {od17 an17 : Option Addr} {sl17 : Array (Option Value)} {oc17 kV17 dc17 pm17 cd17 ct17 : Value} {f17 : Addr}
  {od18 an18 : Option Addr} {sl18 : Array (Option Value)} {oc18 kV18 dc18 pm18 cd18 ct18 : Value} {f18 : Addr}
  {od19 an19 : Option Addr} {sl19 : Array (Option Value)} {oc19 kV19 dc19 pm19 cd19 ct19 : Value} {f19 : Addr}
  {od20 an20 : Option Addr} {sl20 : Array (Option Value)} {oc20 kV20 dc20 pm20 cd20 ct20 : Value} {f20 : Addr}
  {od21 an21 : Option Addr} {sl21 : Array (Option Value)} {oc21 kV21 dc21 pm21 cd21 ct21 : Value} {f21 : Addr}
  {od22 an22 : Option Addr} {sl22 : Array (Option Value)} {oc22 kV22 dc22 pm22 cd22 ct22 : Value} {f22 : Addr}
  {od23 an23 : Option Addr} {sl23 : Array (Option Value)} {oc23 kV23 dc23 pm23 cd23 ct23 : Value} {f23 : Addr}
  {od24 an24 : Option Addr} {sl24 : Array (Option Value)} {oc24 kV24 dc24 pm24 cd24 ct24 : Value} {f24 : Addr}
  {od25 an25 : Option Addr} {sl25 : Array (Option Value)} {oc25 kV25 dc25 pm25 cd25 ct25 : Value} {f25 : Addr}
  {od26 an26 : Option Addr} {sl26 : Array (Option Value)} {oc26 kV26 dc26 pm26 cd26 ct26 : Value} {f26 : Addr}
  {od27 an27 : Option Addr} {sl27 : Array (Option Value)} {oc27 kV27 dc27 pm27 cd27 ct27 : Value} {f27 : Addr}
  {od28 an28 : Option Addr} {sl28 : Array (Option Value)} {oc28 kV28 dc28 pm28 cd28 ct28 : Value} {f28 : Addr}
  {od29 an29 : Option Addr} {sl29 : Array (Option Value)} {oc29 kV29 dc29 pm29 cd29 ct29 : Value} {f29 : Addr}
  {od30 an30 : Option Addr} {sl30 : Array (Option Value)} {oc30 kV30 dc30 pm30 cd30 ct30 : Value} {f30 : Addr}
  {od31 an31 : Option Addr} {sl31 : Array (Option Value)} {oc31 kV31 dc31 pm31 cd31 ct31 : Value} {f31 : Addr}
  {od32 an32 : Option Addr} {sl32 : Array (Option Value)} {oc32 kV32 dc32 pm32 cd32 ct32 : Value} {f32 : Addr}
  {od33 an33 : Option Addr} {sl33 : Array (Option Value)} {oc33 kV33 dc33 pm33 cd33 ct33 : Value} {f33 : Addr}
  {od34 an34 : Option Addr} {sl34 : Array (Option Value)} {oc34 kV34 dc34 pm34 cd34 ct34 : Value} {f34 : Addr}
  (a0 : PySem.W.nsIn K mainGlobals "is_integer_within" = some (some (.ref f0)))
  (l0 : K.lookup f0 = some ⟨oc0, od0, .func (PySem.W.fnOf "is_integer_within" "is_integer_within" (defArgs s_is_integer_within) (defBody s_is_integer_within) (defScope s_is_integer_within) .none kV0 dc0 pm0 an0 cd0 ct0), sl0⟩)
  (c0 : PySem.W.codeIn K cd0 "is_integer_within" = true) (k0 : PySem.W.keepIn K (.ref f0) = true)
  (a1 : PySem.W.nsIn K mainGlobals "is_list_of_integers" = some (some (.ref f1)))
  (l1 : K.lookup f1 = some ⟨oc1, od1, .func (PySem.W.fnOf "is_list_of_integers" "is_list_of_integers" (defArgs s_is_list_of_integers) (defBody s_is_list_of_integers) (defScope s_is_list_of_integers) .none kV1 dc1 pm1 an1 cd1 ct1), sl1⟩)
  (c1 : PySem.W.codeIn K cd1 "is_list_of_integers" = true) (k1 : PySem.W.keepIn K (.ref f1) = true)
  (a2 : PySem.W.nsIn K mainGlobals "is_one_height" = some (some (.ref f2)))
  (l2 : K.lookup f2 = some ⟨oc2, od2, .func (PySem.W.fnOf "is_one_height" "is_one_height" (defArgs s_is_one_height) (defBody s_is_one_height) (defScope s_is_one_height) .none kV2 dc2 pm2 an2 cd2 ct2), sl2⟩)
  (c2 : PySem.W.codeIn K cd2 "is_one_height" = true) (k2 : PySem.W.keepIn K (.ref f2) = true)
  (a3 : PySem.W.nsIn K mainGlobals "check_height" = some (some (.ref f3)))
  (l3 : K.lookup f3 = some ⟨oc3, od3, .func (PySem.W.fnOf "check_height" "check_height" (defArgs s_check_height) (defBody s_check_height) (defScope s_check_height) .none kV3 dc3 pm3 an3 cd3 ct3), sl3⟩)
  (c3 : PySem.W.codeIn K cd3 "check_height" = true) (k3 : PySem.W.keepIn K (.ref f3) = true)
  (a4 : PySem.W.nsIn K mainGlobals "check_index" = some (some (.ref f4)))
  (l4 : K.lookup f4 = some ⟨oc4, od4, .func (PySem.W.fnOf "check_index" "check_index" (defArgs s_check_index) (defBody s_check_index) (defScope s_check_index) .none kV4 dc4 pm4 an4 cd4 ct4), sl4⟩)
  (c4 : PySem.W.codeIn K cd4 "check_index" = true) (k4 : PySem.W.keepIn K (.ref f4) = true)
  (a5 : PySem.W.nsIn K mainGlobals "is_start" = some (some (.ref f5)))
  (l5 : K.lookup f5 = some ⟨oc5, od5, .func (PySem.W.fnOf "is_start" "is_start" (defArgs s_is_start) (defBody s_is_start) (defScope s_is_start) .none kV5 dc5 pm5 an5 cd5 ct5), sl5⟩)
  (c5 : PySem.W.codeIn K cd5 "is_start" = true) (k5 : PySem.W.keepIn K (.ref f5) = true)
  (a6 : PySem.W.nsIn K mainGlobals "is_cards" = some (some (.ref f6)))
  (l6 : K.lookup f6 = some ⟨oc6, od6, .func (PySem.W.fnOf "is_cards" "is_cards" (defArgs s_is_cards) (defBody s_is_cards) (defScope s_is_cards) .none kV6 dc6 pm6 an6 cd6 ct6), sl6⟩)
  (c6 : PySem.W.codeIn K cd6 "is_cards" = true) (k6 : PySem.W.keepIn K (.ref f6) = true)
  (a7 : PySem.W.nsIn K mainGlobals "check_start" = some (some (.ref f7)))
  (l7 : K.lookup f7 = some ⟨oc7, od7, .func (PySem.W.fnOf "check_start" "check_start" (defArgs s_check_start) (defBody s_check_start) (defScope s_check_start) .none kV7 dc7 pm7 an7 cd7 ct7), sl7⟩)
  (c7 : PySem.W.codeIn K cd7 "check_start" = true) (k7 : PySem.W.keepIn K (.ref f7) = true)
  (a8 : PySem.W.nsIn K mainGlobals "check_cards" = some (some (.ref f8)))
  (l8 : K.lookup f8 = some ⟨oc8, od8, .func (PySem.W.fnOf "check_cards" "check_cards" (defArgs s_check_cards) (defBody s_check_cards) (defScope s_check_cards) .none kV8 dc8 pm8 an8 cd8 ct8), sl8⟩)
  (c8 : PySem.W.codeIn K cd8 "check_cards" = true) (k8 : PySem.W.keepIn K (.ref f8) = true)
  (a9 : PySem.W.nsIn K mainGlobals "check_start_and_cards" = some (some (.ref f9)))
  (l9 : K.lookup f9 = some ⟨oc9, od9, .func (PySem.W.fnOf "check_start_and_cards" "check_start_and_cards" (defArgs s_check_start_and_cards) (defBody s_check_start_and_cards) (defScope s_check_start_and_cards) .none kV9 dc9 pm9 an9 cd9 ct9), sl9⟩)
  (c9 : PySem.W.codeIn K cd9 "check_start_and_cards" = true) (k9 : PySem.W.keepIn K (.ref f9) = true)
  (a10 : PySem.W.nsIn K mainGlobals "lowest_column" = some (some (.ref f10)))
  (l10 : K.lookup f10 = some ⟨oc10, od10, .func (PySem.W.fnOf "lowest_column" "lowest_column" (defArgs s_lowest_column) (defBody s_lowest_column) (defScope s_lowest_column) .none kV10 dc10 pm10 an10 cd10 ct10), sl10⟩)
  (c10 : PySem.W.codeIn K cd10 "lowest_column" = true) (k10 : PySem.W.keepIn K (.ref f10) = true)
  (a11 : PySem.W.nsIn K mainGlobals "lay_cards" = some (some (.ref f11)))
  (l11 : K.lookup f11 = some ⟨oc11, od11, .func (PySem.W.fnOf "lay_cards" "lay_cards" (defArgs s_lay_cards) (defBody s_lay_cards) (defScope s_lay_cards) .none kV11 dc11 pm11 an11 cd11 ct11), sl11⟩)
  (c11 : PySem.W.codeIn K cd11 "lay_cards" = true) (k11 : PySem.W.keepIn K (.ref f11) = true)
  (a12 : PySem.W.nsIn K mainGlobals "tops_of" = some (some (.ref f12)))
  (l12 : K.lookup f12 = some ⟨oc12, od12, .func (PySem.W.fnOf "tops_of" "tops_of" (defArgs s_tops_of) (defBody s_tops_of) (defScope s_tops_of) .none kV12 dc12 pm12 an12 cd12 ct12), sl12⟩)
  (c12 : PySem.W.codeIn K cd12 "tops_of" = true) (k12 : PySem.W.keepIn K (.ref f12) = true)
  (a13 : PySem.W.nsIn K mainGlobals "end_of" = some (some (.ref f13)))
  (l13 : K.lookup f13 = some ⟨oc13, od13, .func (PySem.W.fnOf "end_of" "end_of" (defArgs s_end_of) (defBody s_end_of) (defScope s_end_of) .none kV13 dc13 pm13 an13 cd13 ct13), sl13⟩)
  (c13 : PySem.W.codeIn K cd13 "end_of" = true) (k13 : PySem.W.keepIn K (.ref f13) = true)
  (a14 : PySem.W.nsIn K mainGlobals "with_item" = some (some (.ref f14)))
  (l14 : K.lookup f14 = some ⟨oc14, od14, .func (PySem.W.fnOf "with_item" "with_item" (defArgs s_with_item) (defBody s_with_item) (defScope s_with_item) .none kV14 dc14 pm14 an14 cd14 ct14), sl14⟩)
  (c14 : PySem.W.codeIn K cd14 "with_item" = true) (k14 : PySem.W.keepIn K (.ref f14) = true)
  (a15 : PySem.W.nsIn K mainGlobals "without_item" = some (some (.ref f15)))
  (l15 : K.lookup f15 = some ⟨oc15, od15, .func (PySem.W.fnOf "without_item" "without_item" (defArgs s_without_item) (defBody s_without_item) (defScope s_without_item) .none kV15 dc15 pm15 an15 cd15 ct15), sl15⟩)
  (c15 : PySem.W.codeIn K cd15 "without_item" = true) (k15 : PySem.W.keepIn K (.ref f15) = true)
  (a16 : PySem.W.nsIn K mainGlobals "with_moved_item" = some (some (.ref f16)))
  (l16 : K.lookup f16 = some ⟨oc16, od16, .func (PySem.W.fnOf "with_moved_item" "with_moved_item" (defArgs s_with_moved_item) (defBody s_with_moved_item) (defScope s_with_moved_item) .none kV16 dc16 pm16 an16 cd16 ct16), sl16⟩)
  (c16 : PySem.W.codeIn K cd16 "with_moved_item" = true) (k16 : PySem.W.keepIn K (.ref f16) = true)
  (a17 : PySem.W.nsIn K mainGlobals "with_other_item" = some (some (.ref f17)))
  (l17 : K.lookup f17 = some ⟨oc17, od17, .func (PySem.W.fnOf "with_other_item" "with_other_item" (defArgs s_with_other_item) (defBody s_with_other_item) (defScope s_with_other_item) .none kV17 dc17 pm17 an17 cd17 ct17), sl17⟩)
  (c17 : PySem.W.codeIn K cd17 "with_other_item" = true) (k17 : PySem.W.keepIn K (.ref f17) = true)
  (a18 : PySem.W.nsIn K mainGlobals "growths" = some (some (.ref f18)))
  (l18 : K.lookup f18 = some ⟨oc18, od18, .func (PySem.W.fnOf "growths" "growths" (defArgs s_growths) (defBody s_growths) (defScope s_growths) .none kV18 dc18 pm18 an18 cd18 ct18), sl18⟩)
  (c18 : PySem.W.codeIn K cd18 "growths" = true) (k18 : PySem.W.keepIn K (.ref f18) = true)
  (a19 : PySem.W.nsIn K mainGlobals "effect_of_insert" = some (some (.ref f19)))
  (l19 : K.lookup f19 = some ⟨oc19, od19, .func (PySem.W.fnOf "effect_of_insert" "effect_of_insert" (defArgs s_effect_of_insert) (defBody s_effect_of_insert) (defScope s_effect_of_insert) .none kV19 dc19 pm19 an19 cd19 ct19), sl19⟩)
  (c19 : PySem.W.codeIn K cd19 "effect_of_insert" = true) (k19 : PySem.W.keepIn K (.ref f19) = true)
  (a20 : PySem.W.nsIn K mainGlobals "effect_of_remove" = some (some (.ref f20)))
  (l20 : K.lookup f20 = some ⟨oc20, od20, .func (PySem.W.fnOf "effect_of_remove" "effect_of_remove" (defArgs s_effect_of_remove) (defBody s_effect_of_remove) (defScope s_effect_of_remove) .none kV20 dc20 pm20 an20 cd20 ct20), sl20⟩)
  (c20 : PySem.W.codeIn K cd20 "effect_of_remove" = true) (k20 : PySem.W.keepIn K (.ref f20) = true)
  (a21 : PySem.W.nsIn K mainGlobals "effect_of_move" = some (some (.ref f21)))
  (l21 : K.lookup f21 = some ⟨oc21, od21, .func (PySem.W.fnOf "effect_of_move" "effect_of_move" (defArgs s_effect_of_move) (defBody s_effect_of_move) (defScope s_effect_of_move) .none kV21 dc21 pm21 an21 cd21 ct21), sl21⟩)
  (c21 : PySem.W.codeIn K cd21 "effect_of_move" = true) (k21 : PySem.W.keepIn K (.ref f21) = true)
  (a22 : PySem.W.nsIn K mainGlobals "effect_of_stretch" = some (some (.ref f22)))
  (l22 : K.lookup f22 = some ⟨oc22, od22, .func (PySem.W.fnOf "effect_of_stretch" "effect_of_stretch" (defArgs s_effect_of_stretch) (defBody s_effect_of_stretch) (defScope s_effect_of_stretch) .none kV22 dc22 pm22 an22 cd22 ct22), sl22⟩)
  (c22 : PySem.W.codeIn K cd22 "effect_of_stretch" = true) (k22 : PySem.W.keepIn K (.ref f22) = true)
  (a23 : PySem.W.nsIn K mainGlobals "effect_of_exchange" = some (some (.ref f23)))
  (l23 : K.lookup f23 = some ⟨oc23, od23, .func (PySem.W.fnOf "effect_of_exchange" "effect_of_exchange" (defArgs s_effect_of_exchange) (defBody s_effect_of_exchange) (defScope s_effect_of_exchange) .none kV23 dc23 pm23 an23 cd23 ct23), sl23⟩)
  (c23 : PySem.W.codeIn K cd23 "effect_of_exchange" = true) (k23 : PySem.W.keepIn K (.ref f23) = true)
  (a24 : PySem.W.nsIn K mainGlobals "_law_open_source" = some (some (.ref f24)))
  (l24 : K.lookup f24 = some ⟨oc24, od24, .func (PySem.W.fnOf "_law_open_source" "_law_open_source" (defArgs s_law_open_source) (defBody s_law_open_source) (defScope s_law_open_source) .none kV24 dc24 pm24 an24 cd24 ct24), sl24⟩)
  (c24 : PySem.W.codeIn K cd24 "_law_open_source" = true) (k24 : PySem.W.keepIn K (.ref f24) = true)
  (a25 : PySem.W.nsIn K mainGlobals "_law_draw" = some (some (.ref f25)))
  (l25 : K.lookup f25 = some ⟨oc25, od25, .func (PySem.W.fnOf "_law_draw" "_law_draw" (defArgs s_law_draw) (defBody s_law_draw) (defScope s_law_draw) .none kV25 dc25 pm25 an25 cd25 ct25), sl25⟩)
  (c25 : PySem.W.codeIn K cd25 "_law_draw" = true) (k25 : PySem.W.keepIn K (.ref f25) = true)
  (a26 : PySem.W.nsIn K mainGlobals "_law_height" = some (some (.ref f26)))
  (l26 : K.lookup f26 = some ⟨oc26, od26, .func (PySem.W.fnOf "_law_height" "_law_height" (defArgs s_law_height) (defBody s_law_height) (defScope s_law_height) .none kV26 dc26 pm26 an26 cd26 ct26), sl26⟩)
  (c26 : PySem.W.codeIn K cd26 "_law_height" = true) (k26 : PySem.W.keepIn K (.ref f26) = true)
  (a27 : PySem.W.nsIn K mainGlobals "_law_columns" = some (some (.ref f27)))
  (l27 : K.lookup f27 = some ⟨oc27, od27, .func (PySem.W.fnOf "_law_columns" "_law_columns" (defArgs s_law_columns) (defBody s_law_columns) (defScope s_law_columns) .none kV27 dc27 pm27 an27 cd27 ct27), sl27⟩)
  (c27 : PySem.W.codeIn K cd27 "_law_columns" = true) (k27 : PySem.W.keepIn K (.ref f27) = true)
  (a28 : PySem.W.nsIn K mainGlobals "_law_cards" = some (some (.ref f28)))
  (l28 : K.lookup f28 = some ⟨oc28, od28, .func (PySem.W.fnOf "_law_cards" "_law_cards" (defArgs s_law_cards) (defBody s_law_cards) (defScope s_law_cards) .none kV28 dc28 pm28 an28 cd28 ct28), sl28⟩)
  (c28 : PySem.W.codeIn K cd28 "_law_cards" = true) (k28 : PySem.W.keepIn K (.ref f28) = true)
  (a29 : PySem.W.nsIn K mainGlobals "_law_edited" = some (some (.ref f29)))
  (l29 : K.lookup f29 = some ⟨oc29, od29, .func (PySem.W.fnOf "_law_edited" "_law_edited" (defArgs s_law_edited) (defBody s_law_edited) (defScope s_law_edited) .none kV29 dc29 pm29 an29 cd29 ct29), sl29⟩)
  (c29 : PySem.W.codeIn K cd29 "_law_edited" = true) (k29 : PySem.W.keepIn K (.ref f29) = true)
  (a30 : PySem.W.nsIn K mainGlobals "_law_change" = some (some (.ref f30)))
  (l30 : K.lookup f30 = some ⟨oc30, od30, .func (PySem.W.fnOf "_law_change" "_law_change" (defArgs s_law_change) (defBody s_law_change) (defScope s_law_change) .none kV30 dc30 pm30 an30 cd30 ct30), sl30⟩)
  (c30 : PySem.W.codeIn K cd30 "_law_change" = true) (k30 : PySem.W.keepIn K (.ref f30) = true)
  (a31 : PySem.W.nsIn K mainGlobals "_law_told" = some (some (.ref f31)))
  (l31 : K.lookup f31 = some ⟨oc31, od31, .func (PySem.W.fnOf "_law_told" "_law_told" (defArgs s_law_told) (defBody s_law_told) (defScope s_law_told) .none kV31 dc31 pm31 an31 cd31 ct31), sl31⟩)
  (c31 : PySem.W.codeIn K cd31 "_law_told" = true) (k31 : PySem.W.keepIn K (.ref f31) = true)
  (a32 : PySem.W.nsIn K mainGlobals "_law_followed" = some (some (.ref f32)))
  (l32 : K.lookup f32 = some ⟨oc32, od32, .func (PySem.W.fnOf "_law_followed" "_law_followed" (defArgs s_law_followed) (defBody s_law_followed) (defScope s_law_followed) .none kV32 dc32 pm32 an32 cd32 ct32), sl32⟩)
  (c32 : PySem.W.codeIn K cd32 "_law_followed" = true) (k32 : PySem.W.keepIn K (.ref f32) = true)
  (a33 : PySem.W.nsIn K mainGlobals "_law_ends_right" = some (some (.ref f33)))
  (l33 : K.lookup f33 = some ⟨oc33, od33, .func (PySem.W.fnOf "_law_ends_right" "_law_ends_right" (defArgs s_law_ends_right) (defBody s_law_ends_right) (defScope s_law_ends_right) .none kV33 dc33 pm33 an33 cd33 ct33), sl33⟩)
  (c33 : PySem.W.codeIn K cd33 "_law_ends_right" = true) (k33 : PySem.W.keepIn K (.ref f33) = true)
  (a34 : PySem.W.nsIn K mainGlobals "law" = some (some (.ref f34)))
  (l34 : K.lookup f34 = some ⟨oc34, od34, .func (PySem.W.fnOf "law" "law" (defArgs s_law) (defBody s_law) (defScope s_law) .none kV34 dc34 pm34 an34 cd34 ct34), sl34⟩)
  (c34 : PySem.W.codeIn K cd34 "law" = true) (k34 : PySem.W.keepIn K (.ref f34) = true)
  (z_isinstance : PySem.W.nsIn K mainGlobals "isinstance" = some none)
  (z_bool : PySem.W.nsIn K mainGlobals "bool" = some none)
  (z_int : PySem.W.nsIn K mainGlobals "int" = some none)
  (z_len : PySem.W.nsIn K mainGlobals "len" = some none)
  (z_type : PySem.W.nsIn K mainGlobals "type" = some none)
  (z_list : PySem.W.nsIn K mainGlobals "list" = some none)
  (z_all : PySem.W.nsIn K mainGlobals "all" = some none)
  (z_min : PySem.W.nsIn K mainGlobals "min" = some none)
  (z_zip : PySem.W.nsIn K mainGlobals "zip" = some none)
  (z_max : PySem.W.nsIn K mainGlobals "max" = some none)
  (z_range : PySem.W.nsIn K mainGlobals "range" = some none)
  (z_dict : PySem.W.nsIn K mainGlobals "dict" = some none)
  (z_enumerate : PySem.W.nsIn K mainGlobals "enumerate" = some none)
  {t_MOST_HEIGHT : Tok} (c_MOST_HEIGHT : PySem.W.nsIn K mainGlobals "MOST_HEIGHT" = some (some (.int (1000000000000000000000000000000) t_MOST_HEIGHT)))
  {t_MOST_COLUMNS : Tok} (c_MOST_COLUMNS : PySem.W.nsIn K mainGlobals "MOST_COLUMNS" = some (some (.int (30) t_MOST_COLUMNS)))
  {t_MOST_CARDS : Tok} (c_MOST_CARDS : PySem.W.nsIn K mainGlobals "MOST_CARDS" = some (some (.int (200) t_MOST_CARDS))) :
    ∃ fd : FuncData, (∀ (s : Shared) (v : Value), BindsTo s fd ⟨[v], []⟩ [("script", v)]) ∧
      ∀ base : Heap, K.In base → base.Ns mainGlobals mg → FnOk l.prog w K mg base CX0 10 fa fd ["script"] (spLaw K) := by
  have e := hfa.symm.trans (PySem.W.mg_of X G a34)
  cases e
  have F0 := fun_mk (st := s_is_integer_within) l0 c0 k0
  have b0 := F0.binds (ps := ["value", "least", "greatest"]) fun _ _ _ _ _ _ us hl => match us, hl with | [_, _, _], _ => rfl
  have F1 := fun_mk (st := s_is_list_of_integers) l1 c1 k1
  have b1 := F1.binds (ps := ["value", "fewest", "most", "least", "greatest"]) fun _ _ _ _ _ _ us hl => match us, hl with | [_, _, _, _, _], _ => rfl
  have F2 := fun_mk (st := s_is_one_height) l2 c2 k2
  have b2 := F2.binds (ps := ["value"]) fun _ _ _ _ _ _ us hl => match us, hl with | [_], _ => rfl
  have F3 := fun_mk (st := s_check_height) l3 c3 k3
  have b3 := F3.binds (ps := ["height"]) fun _ _ _ _ _ _ us hl => match us, hl with | [_], _ => rfl
  have F4 := fun_mk (st := s_check_index) l4 c4 k4
  have b4 := F4.binds (ps := ["index", "many"]) fun _ _ _ _ _ _ us hl => match us, hl with | [_, _], _ => rfl
  have F5 := fun_mk (st := s_is_start) l5 c5 k5
  have b5 := F5.binds (ps := ["value"]) fun _ _ _ _ _ _ us hl => match us, hl with | [_], _ => rfl
  have F6 := fun_mk (st := s_is_cards) l6 c6 k6
  have b6 := F6.binds (ps := ["value"]) fun _ _ _ _ _ _ us hl => match us, hl with | [_], _ => rfl
  have F7 := fun_mk (st := s_check_start) l7 c7 k7
  have b7 := F7.binds (ps := ["start"]) fun _ _ _ _ _ _ us hl => match us, hl with | [_], _ => rfl
  have F8 := fun_mk (st := s_check_cards) l8 c8 k8
  have b8 := F8.binds (ps := ["heights"]) fun _ _ _ _ _ _ us hl => match us, hl with | [_], _ => rfl
  have F9 := fun_mk (st := s_check_start_and_cards) l9 c9 k9
  have b9 := F9.binds (ps := ["start", "heights"]) fun _ _ _ _ _ _ us hl => match us, hl with | [_, _], _ => rfl
  have F10 := fun_mk (st := s_lowest_column) l10 c10 k10
  have b10 := F10.binds (ps := ["columns", "right"]) fun _ _ _ _ _ _ us hl => match us, hl with | [_, _], _ => rfl
  have F11 := fun_mk (st := s_lay_cards) l11 c11 k11
  have b11 := F11.binds (ps := ["start", "heights", "right"]) fun _ _ _ _ _ _ us hl => match us, hl with | [_, _, _], _ => rfl
  have F12 := fun_mk (st := s_tops_of) l12 c12 k12
  have b12 := F12.binds (ps := ["start", "heights"]) fun _ _ _ _ _ _ us hl => match us, hl with | [_, _], _ => rfl
  have F13 := fun_mk (st := s_end_of) l13 c13 k13
  have b13 := F13.binds (ps := ["start", "heights"]) fun _ _ _ _ _ _ us hl => match us, hl with | [_, _], _ => rfl
  have F14 := fun_mk (st := s_with_item) l14 c14 k14
  have b14 := F14.binds (ps := ["items", "index", "item"]) fun _ _ _ _ _ _ us hl => match us, hl with | [_, _, _], _ => rfl
  have F15 := fun_mk (st := s_without_item) l15 c15 k15
  have b15 := F15.binds (ps := ["items", "index"]) fun _ _ _ _ _ _ us hl => match us, hl with | [_, _], _ => rfl
  have F16 := fun_mk (st := s_with_moved_item) l16 c16 k16
  have b16 := F16.binds (ps := ["items", "index", "place"]) fun _ _ _ _ _ _ us hl => match us, hl with | [_, _, _], _ => rfl
  have F17 := fun_mk (st := s_with_other_item) l17 c17 k17
  have b17 := F17.binds (ps := ["items", "index", "item"]) fun _ _ _ _ _ _ us hl => match us, hl with | [_, _, _], _ => rfl
  have F18 := fun_mk (st := s_growths) l18 c18 k18
  have b18 := F18.binds (ps := ["before", "after"]) fun _ _ _ _ _ _ us hl => match us, hl with | [_, _], _ => rfl
  have F19 := fun_mk (st := s_effect_of_insert) l19 c19 k19
  have b19 := F19.binds (ps := ["start", "heights", "index", "height"]) fun _ _ _ _ _ _ us hl => match us, hl with | [_, _, _, _], _ => rfl
  have F20 := fun_mk (st := s_effect_of_remove) l20 c20 k20
  have b20 := F20.binds (ps := ["start", "heights", "index"]) fun _ _ _ _ _ _ us hl => match us, hl with | [_, _, _], _ => rfl
  have F21 := fun_mk (st := s_effect_of_move) l21 c21 k21
  have b21 := F21.binds (ps := ["start", "heights", "index", "place"]) fun _ _ _ _ _ _ us hl => match us, hl with | [_, _, _, _], _ => rfl
  have F22 := fun_mk (st := s_effect_of_stretch) l22 c22 k22
  have b22 := F22.binds (ps := ["start", "heights", "index", "height"]) fun _ _ _ _ _ _ us hl => match us, hl with | [_, _, _, _], _ => rfl
  have F23 := fun_mk (st := s_effect_of_exchange) l23 c23 k23
  have b23 := F23.binds (ps := ["start", "heights", "index"]) fun _ _ _ _ _ _ us hl => match us, hl with | [_, _, _], _ => rfl
  have F24 := fun_mk (st := s_law_open_source) l24 c24 k24
  have b24 := F24.binds (ps := ["script", "k"]) fun _ _ _ _ _ _ us hl => match us, hl with | [_, _], _ => rfl
  have F25 := fun_mk (st := s_law_draw) l25 c25 k25
  have b25 := F25.binds (ps := ["source", "limit"]) fun _ _ _ _ _ _ us hl => match us, hl with | [_, _], _ => rfl
  have F26 := fun_mk (st := s_law_height) l26 c26 k26
  have b26 := F26.binds (ps := ["source"]) fun _ _ _ _ _ _ us hl => match us, hl with | [_], _ => rfl
  have F27 := fun_mk (st := s_law_columns) l27 c27 k27
  have b27 := F27.binds (ps := ["source", "script"]) fun _ _ _ _ _ _ us hl => match us, hl with | [_, _], _ => rfl
  have F28 := fun_mk (st := s_law_cards) l28 c28 k28
  have b28 := F28.binds (ps := ["source", "script", "most"]) fun _ _ _ _ _ _ us hl => match us, hl with | [_, _, _], _ => rfl
  have F29 := fun_mk (st := s_law_edited) l29 c29 k29
  have b29 := F29.binds (ps := ["kind", "cards", "spot", "other"]) fun _ _ _ _ _ _ us hl => match us, hl with | [_, _, _, _], _ => rfl
  have F30 := fun_mk (st := s_law_change) l30 c30 k30
  have b30 := F30.binds (ps := ["source", "cards"]) fun _ _ _ _ _ _ us hl => match us, hl with | [_, _], _ => rfl
  have F31 := fun_mk (st := s_law_told) l31 c31 k31
  have b31 := F31.binds (ps := ["start", "cards", "change"]) fun _ _ _ _ _ _ us hl => match us, hl with | [_, _, _], _ => rfl
  have F32 := fun_mk (st := s_law_followed) l32 c32 k32
  have b32 := F32.binds (ps := ["known", "names", "change", "found", "after", "new_name"]) fun _ _ _ _ _ _ us hl => match us, hl with | [_, _, _, _, _, _], _ => rfl
  have F33 := fun_mk (st := s_law_ends_right) l33 c33 k33
  have b33 := F33.binds (ps := ["start", "cards"]) fun _ _ _ _ _ _ us hl => match us, hl with | [_, _], _ => rfl
  have F34 := fun_mk (st := s_law) l34 c34 k34
  have b34 := F34.binds (ps := ["script"]) fun _ _ _ _ _ _ us hl => match us, hl with | [_], _ => rfl
  exact ⟨_, fun s v => .of_eq rfl, fun base _ _ => ok_law (⟨f0, _, F0, b0, (PySem.W.mg_of X G a0), f1, _, F1, b1, (PySem.W.mg_of X G a1), f2, _, F2, b2, (PySem.W.mg_of X G a2), f3, _, F3, b3, (PySem.W.mg_of X G a3), f4, _, F4, b4, (PySem.W.mg_of X G a4), f5, _, F5, b5, (PySem.W.mg_of X G a5), f6, _, F6, b6, (PySem.W.mg_of X G a6), f7, _, F7, b7, (PySem.W.mg_of X G a7), f8, _, F8, b8, (PySem.W.mg_of X G a8), f9, _, F9, b9, (PySem.W.mg_of X G a9), f10, _, F10, b10, (PySem.W.mg_of X G a10), f11, _, F11, b11, (PySem.W.mg_of X G a11), f12, _, F12, b12, (PySem.W.mg_of X G a12), f13, _, F13, b13, (PySem.W.mg_of X G a13), f14, _, F14, b14, (PySem.W.mg_of X G a14), f15, _, F15, b15, (PySem.W.mg_of X G a15), f16, _, F16, b16, (PySem.W.mg_of X G a16), f17, _, F17, b17, (PySem.W.mg_of X G a17), f18, _, F18, b18, (PySem.W.mg_of X G a18), f19, _, F19, b19, (PySem.W.mg_of X G a19), f20, _, F20, b20, (PySem.W.mg_of X G a20), f21, _, F21, b21, (PySem.W.mg_of X G a21), f22, _, F22, b22, (PySem.W.mg_of X G a22), f23, _, F23, b23, (PySem.W.mg_of X G a23), f24, _, F24, b24, (PySem.W.mg_of X G a24), f25, _, F25, b25, (PySem.W.mg_of X G a25), f26, _, F26, b26, (PySem.W.mg_of X G a26), f27, _, F27, b27, (PySem.W.mg_of X G a27), f28, _, F28, b28, (PySem.W.mg_of X G a28), f29, _, F29, b29, (PySem.W.mg_of X G a29), f30, _, F30, b30, (PySem.W.mg_of X G a30), f31, _, F31, b31, (PySem.W.mg_of X G a31), f32, _, F32, b32, (PySem.W.mg_of X G a32), f33, _, F33, b33, (PySem.W.mg_of X G a33), fa, _, F34, b34, (PySem.W.mg_of X G a34), (PySem.W.mg_none_of X G z_isinstance), (PySem.W.mg_none_of X G z_bool), (PySem.W.mg_none_of X G z_int), (PySem.W.mg_none_of X G z_len), (PySem.W.mg_none_of X G z_type), (PySem.W.mg_none_of X G z_list), (PySem.W.mg_none_of X G z_all), (PySem.W.mg_none_of X G z_min), (PySem.W.mg_none_of X G z_zip), (PySem.W.mg_none_of X G z_max), (PySem.W.mg_none_of X G z_range), (PySem.W.mg_none_of X G z_dict), (PySem.W.mg_none_of X G z_enumerate), t_MOST_HEIGHT, (PySem.W.mg_of X G c_MOST_HEIGHT), t_MOST_COLUMNS, (PySem.W.mg_of X G c_MOST_COLUMNS), t_MOST_CARDS, (PySem.W.mg_of X G c_MOST_CARDS)⟩ : Txt K mg)⟩
end K51
open PySem PySem.W PyProof.Rows
set_option maxHeartbeats 0 in
theorem PySem.Challenge.cw_lowcolumns_k51_whole_effects_and_tops_holds : PySem.Challenge.rw_lowcolumns_k51_whole_effects_and_tops.Holds := by
  w_on; o_law; k_head; (case hw => w_witness2)
  k_fill
  refine L2.walk_of (l := PySem.Challenge.rw_lowcolumns_k51_whole_effects_and_tops) (n := 63) (k := 10) (x := "script") (CX := fun _ => L2.CX0) (sp := fun w => K51.spLaw _) rfl (by decide) rfl ⟨rfl, by decide, by decide⟩ (fun w h Y => PySem.W.kIn_of Y) ?F (fun _ _ a ns hl hO hS => ⟨a, ns, rfl, Lc.scr_of hO hS, hl, fun _ => rfl⟩) (fun _ _ _ _ _ h => h)
  case F =>
    intro w mg fa h KX G hmg
    refine' K51.all_mk KX G hmg ?a0 ?l0 ?c0 ?k0 ?a1 ?l1 ?c1 ?k1 ?a2 ?l2 ?c2 ?k2 ?a3 ?l3 ?c3 ?k3 ?a4 ?l4 ?c4 ?k4 ?a5 ?l5 ?c5 ?k5 ?a6 ?l6 ?c6 ?k6 ?a7 ?l7 ?c7 ?k7 ?a8 ?l8 ?c8 ?k8 ?a9 ?l9 ?c9 ?k9 ?a10 ?l10 ?c10 ?k10 ?a11 ?l11 ?c11 ?k11 ?a12 ?l12 ?c12 ?k12 ?a13 ?l13 ?c13 ?k13 ?a14 ?l14 ?c14 ?k14 ?a15 ?l15 ?c15 ?k15 ?a16 ?l16 ?c16 ?k16 ?a17 ?l17 ?c17 ?k17 ?a18 ?l18 ?c18 ?k18 ?a19 ?l19 ?c19 ?k19 ?a20 ?l20 ?c20 ?k20 ?a21 ?l21 ?c21 ?k21 ?a22 ?l22 ?c22 ?k22 ?a23 ?l23 ?c23 ?k23 ?a24 ?l24 ?c24 ?k24 ?a25 ?l25 ?c25 ?k25 ?a26 ?l26 ?c26 ?k26 ?a27 ?l27 ?c27 ?k27 ?a28 ?l28 ?c28 ?k28 ?a29 ?l29 ?c29 ?k29 ?a30 ?l30 ?c30 ?k30 ?a31 ?l31 ?c31 ?k31 ?a32 ?l32 ?c32 ?k32 ?a33 ?l33 ?c33 ?k33 ?a34 ?l34 ?c34 ?k34 ?z_isinstance ?z_bool ?z_int ?z_len ?z_type ?z_list ?z_all ?z_min ?z_zip ?z_max ?z_range ?z_dict ?z_enumerate ?c_MOST_HEIGHT ?c_MOST_COLUMNS ?c_MOST_CARDS
    (case a0 => k_is); (case l0 => k_is); (case c0 => k_is); (case k0 => k_is); (case a1 => k_is); (case l1 => k_is); (case c1 => k_is); (case k1 => k_is); (case a2 => k_is); (case l2 => k_is); (case c2 => k_is); (case k2 => k_is); (case a3 => k_is); (case l3 => k_is); (case c3 => k_is); (case k3 => k_is); (case a4 => k_is); (case l4 => k_is); (case c4 => k_is); (case k4 => k_is); (case a5 => k_is); (case l5 => k_is); (case c5 => k_is); (case k5 => k_is); (case a6 => k_is); (case l6 => k_is); (case c6 => k_is); (case k6 => k_is); (case a7 => k_is); (case l7 => k_is); (case c7 => k_is); (case k7 => k_is); (case a8 => k_is); (case l8 => k_is); (case c8 => k_is); (case k8 => k_is); (case a9 => k_is); (case l9 => k_is); (case c9 => k_is); (case k9 => k_is); (case a10 => k_is); (case l10 => k_is); (case c10 => k_is); (case k10 => k_is); (case a11 => k_is); (case l11 => k_is); (case c11 => k_is); (case k11 => k_is); (case a12 => k_is); (case l12 => k_is); (case c12 => k_is); (case k12 => k_is); (case a13 => k_is); (case l13 => k_is); (case c13 => k_is); (case k13 => k_is); (case a14 => k_is); (case l14 => k_is); (case c14 => k_is); (case k14 => k_is); (case a15 => k_is); (case l15 => k_is); (case c15 => k_is); (case k15 => k_is); (case a16 => k_is); (case l16 => k_is); (case c16 => k_is); (case k16 => k_is); (case a17 => k_is); (case l17 => k_is); (case c17 => k_is); (case k17 => k_is); (case a18 => k_is); (case l18 => k_is); (case c18 => k_is); (case k18 => k_is); (case a19 => k_is); (case l19 => k_is); (case c19 => k_is); (case k19 => k_is); (case a20 => k_is); (case l20 => k_is); (case c20 => k_is); (case k20 => k_is); (case a21 => k_is); (case l21 => k_is); (case c21 => k_is); (case k21 => k_is); (case a22 => k_is); (case l22 => k_is); (case c22 => k_is); (case k22 => k_is); (case a23 => k_is); (case l23 => k_is); (case c23 => k_is); (case k23 => k_is); (case a24 => k_is); (case l24 => k_is); (case c24 => k_is); (case k24 => k_is); (case a25 => k_is); (case l25 => k_is); (case c25 => k_is); (case k25 => k_is); (case a26 => k_is); (case l26 => k_is); (case c26 => k_is); (case k26 => k_is); (case a27 => k_is); (case l27 => k_is); (case c27 => k_is); (case k27 => k_is); (case a28 => k_is); (case l28 => k_is); (case c28 => k_is); (case k28 => k_is); (case a29 => k_is); (case l29 => k_is); (case c29 => k_is); (case k29 => k_is); (case a30 => k_is); (case l30 => k_is); (case c30 => k_is); (case k30 => k_is); (case a31 => k_is); (case l31 => k_is); (case c31 => k_is); (case k31 => k_is); (case a32 => k_is); (case l32 => k_is); (case c32 => k_is); (case k32 => k_is); (case a33 => k_is); (case l33 => k_is); (case c33 => k_is); (case k33 => k_is); (case a34 => k_is); (case l34 => k_is); (case c34 => k_is); (case k34 => k_is); (case z_isinstance => k_is); (case z_bool => k_is); (case z_int => k_is); (case z_len => k_is); (case z_type => k_is); (case z_list => k_is); (case z_all => k_is); (case z_min => k_is); (case z_zip => k_is); (case z_max => k_is); (case z_range => k_is); (case z_dict => k_is); (case z_enumerate => k_is); (case c_MOST_HEIGHT => k_is); (case c_MOST_COLUMNS => k_is); (case c_MOST_CARDS => k_is)

