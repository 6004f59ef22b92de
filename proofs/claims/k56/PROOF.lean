import PyProof.Rows.All
import Wide.All
import OpenK.AllK
import Wide.FinOn
import HandS.ForMost
import HandS.SortInts
import HandS.Wide
import HandS.IsInst
import HandS.Style
import HandS.Flow
import HandS.Zip
import KE.KTypeOf
import PyProof.TypeEq
import PyProof.ReprBulk
import PyProof.ReprRoads
import PyProof.Rows.RuleB_pow
import HandS.Iter
import KE.DataMinMax
import HandS.Defaults
import HandS.Conv
import HandS.NoneIn
import HandS.SortKw
import PyProof.WalkInts
import HandS.Walk
import PySem.Challenge.RW_lowcolumns_k56_gaps_between
set_option Elab.async false
set_option linter.all false
set_option maxRecDepth 100000
namespace Lc
open PySem PySem.Spec PyProof.Rows L2

/-! ### defs that call repr: their promise holds where no repr is under way -/
structure FnG (P : Program) (w : World) (K : PySem.W.Frag) (mg : Str → Option Value) (base : Heap)
    (CX : CXT) (k : Nat) (f : Addr) (fd : FuncData) (ps : List Str) (sp : Sp) : Prop where
  arity : ∀ vs H Q E, sp vs H Q E → vs.length = ps.length
  go : ∀ (A : Around) (outer : List Env) (s : Shared) (H : Hp) (args : Args) (us : List Value) (vs : List V) (Q : VK) (E : XK),
    A.guards = some [] → Room k A → Env0 P w K mg base A outer s H → BindsTo s fd args (ps.zip us) →
    Vals vs us → sp vs H Q E →
    codeAny (model P w) A (.call (.ref f) args) (CR CX outer P w H s Q E) s

theorem FnG.of {P : Program} {w : World} {K : PySem.W.Frag} {mg : Str → Option Value} {base : Heap} {CX : CXT} {k : Nat}
    {f : Addr} {fd : FuncData} {ps : List Str} {sp : Sp} (F : FnOk P w K mg base CX k f fd ps sp) : FnG P w K mg base CX k f fd ps sp :=
  ⟨F.len, fun A o s H a us vs Q E _ => F.run A o s H a us vs Q E⟩

section
variable {P : Program} {w : World} {K : PySem.W.Frag} {mg : Str → Option Value} {base : Heap} {CX : CXT}
/-- a def by its body, where no repr is under way -/
theorem funG {x qual : Str} {st : Stmt} {f : Addr} {fd : FuncData} {N ps : List Str} {k : Nat} {sp : Sp}
    (F : Fun K x qual st f fd) (S : FnScope N ps (defScope st)) (len : ∀ vs H Q E, sp vs H Q E → vs.length = ps.length)
    (hbody : ∀ (cdv : Value) (A : Around) (outer : List Env) (s : Shared) (H : Hp) (vs : List V) (Q : VK) (E : XK),
      A.guards = some [] → Room k (A.deeper (envOfC qual (defScope st) s.heap.objs.size f cdv)) → sp vs H Q E →
      ∃ t, PSs (cxOf CX P w K mg base N qual (defScope st) f cdv A outer s H E) (defBody st) t ∧
        t { nx := fun _ H' => Q .non H', rt := Q } (start N vs) H) :
    FnG P w K mg base CX (k + 1) f fd ps sp := by
  obtain ⟨oc, od, kV, doc, pm, an, cdv, ct, osl, rfl, lk, hcd⟩ := F.ex
  refine ⟨len, fun A outer s H args us vs Q E hgu hr e0 hb r hsp => ?_⟩
  have hl := len _ _ _ _ hsp
  have up : ∀ b o, base.get? b = some o → s.heap.get? b = some o := fun b o e => (e0.bs b o e).1
  have KX : K.In s.heap := e0.mod.kin.keeps up
  have lim : s.heap.NoLimit := e0.mod.nolimit.keeps up
  refine codeAny_call_function hr.depth (KX _ _ lk) rfl S.co S.gen rfl
    (PySem.W.codeRec_of KX hcd) (hb _ _ _ _ ?_)
  refine wpAny_newFunctionEnv_cells S.kind (fun y hy => ?_) fun env he s1 x => ?_
  · have hm := (List.of_mem_zip (show (y.1, y.2) ∈ ps.zip us from hy)).1
    cases S.par y.1 hm with
    | inl q => exact .inl q
    | inr q => exact .inr ⟨q, PySem.W.cellsFrom_some _ _ _ (.inl q)⟩
  subst he
  refine ⟨lim.keeps x.toInCall.keep, codeAny_func ?_⟩
  obtain ⟨t, ht, hq⟩ := hbody cdv A outer s H vs Q E hgu (hr.deeper _) hsp
  have I := inv_start (CX := CX) (P := P) (w := w) (qual := qual) (E := E) S hr.hd e0 hl r x
  refine wpAny_mono (ht.run [] s1 (start N vs) H _ I hq) (fun fl s' hs => ?_) (fun e s' hs => hs)
  cases fl with
  | ret u => obtain ⟨v, σ', H', J, rv, q⟩ := hs; exact ⟨v, H', J.os, J.bare, J.base, J.hok, rv, q⟩
  | next => obtain ⟨σ', H', J, q⟩ := hs; exact ⟨V.non, H', J.os, J.bare, J.base, J.hok, rfl, q⟩
  | brk => obtain ⟨_, _, _, q⟩ := hs; exact q.elim
  | cont => obtain ⟨_, _, _, q⟩ := hs; exact q.elim
end

/-- the same of a def that lets no exception out -/
theorem funG0 {P : Program} {w : World} {K : PySem.W.Frag} {mg : Str → Option Value} {base : Heap} {x qual : Str} {st : Stmt} {f : Addr} {fd : FuncData} {N ps : List Str} {k : Nat} {sp : Sp}
    (F : Fun K x qual st f fd) (S : FnScope N ps (defScope st)) (len : ∀ vs H Q E, sp vs H Q E → vs.length = ps.length)
    (hbody : ∀ (cdv : Value) (A : Around) (outer : List Env) (s : Shared) (H : Hp) (vs : List V) (Q : VK) (E : XK),
      A.guards = some [] → Room k (A.deeper (envOfC qual (defScope st) s.heap.objs.size f cdv)) → sp vs H Q E →
      ∃ t, PSs (cxOf CX0 P w K mg base N qual (defScope st) f cdv A outer s H E).nox (defBody st) t ∧
        t { nx := fun _ H' => Q .non H', rt := Q } (start N vs) H) : FnG P w K mg base CX0 (k + 1) f fd ps sp :=
  funG F S len fun cdv A outer s H vs Q E hgu hr h => by
    obtain ⟨t, ht, hq⟩ := hbody cdv A outer s H vs Q E hgu hr h
    exact ⟨t, ht.nox, hq⟩
section
variable {X : Cx} {CX : CXT} {k : Nat} {f : Addr} {fd : FuncData} {ps : List Str} {sp : Sp} {dvs : List V} {ds : List Value} {E : XK}
  {x : Str} {p pos : Pos} {e : Expr} {es : List Expr} {t tk : TA} {ks : List Str} {kws : List Keyword}
  {g : List Value → List Value → List Value} {gV : List V → List V → List V}
theorem afterG {pins : List (Addr × Obj)} {σ : L2.St} {H : Hp} {s : Shared} {Q : VK} (hx : Passes CX X E) (I : Inv X pins σ H s) {args : Args}
    (h : codeAny (model X.prog X.w) X.A (.call (.ref f) args) (CR CX X.stack X.prog X.w H s Q E) s) :
    wpAny (model X.prog X.w) X.A (call (.ref f) args.pos args.kw) (EP X pins σ Q) X.xe s := by
  refine wpAny_call (codeAny_mono h fun r s' hq => ?_)
  cases r with
  | error e => exact hx pins σ H s e s' I hq
  | ok fl => cases fl with
    | ret u => exact I.after hq
    | next => exact hq.elim
    | brk => exact hq.elim
    | cont => exact hq.elim
/-- f(e, ..) of such a def -/
theorem pe_callG (F : FnG X.prog X.w X.K X.mg X.base CX k f fd ps sp) (hgu : X.A.guards = some []) (hr : Room k X.A)
    (hg : Gl X x) (hm : X.mg x = some (.ref f)) (hk : PySem.W.keepIn X.K (.ref f) = true) (hb : Binds X.K fd ps ds)
    (hd : Vals dvs ds) (hx : Passes CX X E) (ha : PA X (e :: es) t)
    (hdb : (x == ("__debug__" : Str)) = false := by decide)
    (he : starEach (e :: es) X.env = (false, eval e X.env) :: starEach es X.env := by rfl)
    (hpl : (backTo pos (starEach es X.env)).any (·.1) = false := by rfl) :
    PE X (.Call (.Name x p) (e :: es) [] pos) (tCall sp dvs E t) := by
  refine ⟨fun pins s σ H Q I h => wpAny_Call_Name_kw (ld_glob I hg hm ?_ hdb)⟩
  refine PySem.W.callWith_K (h₀ := X.base) I.ok.mod.kin hk
    (thn (ha.run pos pins s σ H _ I h) fun us s1 ⟨vs, H1, I1, r, q⟩ => ⟨I1.kIn, ?_⟩) he hpl
  have r2 : Vals (vs ++ dvs) (us ++ ds) := r.append hd
  have hl : (us ++ ds).length = ps.length := r2.length.symm.trans (F.arity _ _ _ _ q)
  exact afterG hx I1 (F.go X.A X.stack s1 H1 ⟨us, []⟩ (us ++ ds) (vs ++ dvs) Q E hgu hr I1.env0 (hb s1 us I1.kIn hl) r2 q)
/-- f(k = v, ..), every argument by its name -/
theorem pe_callK0 (F : FnOk X.prog X.w X.K X.mg X.base CX k f fd ps sp) (hr : Room k X.A) (hg : Gl X x)
    (hm : X.mg x = some (.ref f)) (hk : PySem.W.keepIn X.K (.ref f) = true) (hb : KBinds X.K fd ps ks g gV) (hx : Passes CX X E)
    (hkw : PK X kws tk) (hall : (backToKw pos (keywordEach kws X.env)).all (·.1.isSome) = true := by rfl)
    (hks : (backToKw pos (keywordEach kws X.env)).filterMap (·.1) = ks := by rfl)
    (hdb : (x == ("__debug__" : Str)) = false := by decide)
    (hpl : ((backTo pos (starEach [] X.env)).any (·.1) || (backToKw pos (keywordEach kws X.env)).any (·.1.isNone)) = false := by rfl) :
    PE X (.Call (.Name x p) [] kws pos) (tCallK sp gV E tNil tk) := by
  refine ⟨fun pins s σ H Q I h => wpAny_Call_Name_kw (ld_glob I hg hm ?_ hdb)⟩
  refine PySem.W.callWith_KW0 (first := []) (h₀ := X.base) I.ok.mod.kin hk hall
    (thn (hkw.run pos pins s σ H _ I h) fun ws s1 ⟨zs, H1, I1, rz, q⟩ => ⟨I1.kIn, ?_⟩) hpl
  rw [hks]
  exact run_fnk (us := []) (vs := []) F hr hb hx I1 .nil rz q
end

/-! ### repr of data -/
/-- data whose repr is known and short: ints of at most 100 signs -/
structure Nice (d : PyData) : Prop where
  sh : d.showable = true
  nd : d.hasDict = false
  dp : d.depth ≤ 40
  lf : d.leavesShort 100 = true
  bk : d.bulk ≤ 100000
def rReprD (K : PySem.W.Frag) : List V → Hp → VK → Prop := fun xs H Q => ∃ a d, xs = [V.ref a] ∧ Dp K H (.ref a) d ∧ Nice d ∧ Q (.str d.shown) H
theorem call_repr_D {X : Cx} (hg : X.A.guards = some []) (hu : X.A.units + 64 < cLine) : CallR X (.builtin "repr") (rReprD X.K) := by
  intro pins s σ H xs us Q I r h
  obtain ⟨a, d, rfl, hd, n, q⟩ := h
  obtain ⟨u, rfl, ru⟩ := vals1 r
  obtain rfl : u = Value.ref a := ru
  obtain ⟨as, rd⟩ := Dp.reads I d (.ref a) (.ref a) hd rfl
  refine repr_of_reads' rd n.sh (PyData.noDict_hsm n.nd) hg (by have := n.dp; omega) (fun _ _ e => e) (fun h' v tk hk => ?_) ?_
  · exact ⟨.str d.shown, H, I.kept hk, ⟨_, rfl⟩, q⟩
  · have := PyData.shown_le_bulk 100 (by decide) d n.lf
    have := n.bk
    rw [sizeLine_eq]
    omega

/-! ### type(x), == of two built-in types -/
def rTypeX (K : PySem.W.Frag) : List V → Hp → VK → Prop := fun xs H Q => ∃ x T, xs = [x] ∧ TyX K H x (.type T) ∧ Q (.ty T) H
theorem call_type_list {X : Cx} : CallR X (.type "type") (fun xs H Q => ∃ a ys, xs = [V.ref a] ∧ SqL X.K H a ys ∧ Q (.ty "list") H) := by
  intro pins s σ H xs us Q I r h
  obtain ⟨a, ys, rfl, hs, q⟩ := h
  obtain ⟨u, rfl, ru⟩ := vals1 r
  obtain rfl : u = Value.ref a := ru
  obtain ⟨its, rv, pl, hz⟩ := I.list hs
  have ty : s.TypeIs (.ref a) "list" := pl.isList.typeIs
  exact PySem.call_type_of ty (by decide +kernel) ⟨.ty "list", H, I, rfl, q⟩
/-- == of the class list and the class list -/
def rEqTy : R2 := fun x y H Q => x = V.ty "list" ∧ y = V.ty "list" ∧ Q (V.bl true) H
theorem op_eqTy {X : Cx} : OpR X (compareOp .Eq) rEqTy := by
  intro pins s σ H x y v u Q I rx ry h
  obtain ⟨e1, e2, q⟩ := h
  subst e1
  subst e2
  have e3 : v = Value.type "list" := rx
  have e4 : u = Value.type "list" := ry
  subst e3
  subst e4
  have fin : EP X pins σ Q (Value.bool true) s := ⟨.bl true, H, I, rfl, q⟩
  exact PySem.TypeEq.eq_type_same (X := "list") PySem.TypeEq.meta_list fin
def CPowW (i j : Int) : Prop := 0 ≤ j ∧ (Builtin.Int.intBits i : Int) * j ≤ 2 ^ 27
theorem op_powW {X : Cx} : OpR X (binaryOp .Pow) (rI CPowW fun i j => .int (i ^ j.toNat)) := opI fun _ _ _ _ _ _ _ hc q => PyProof.Rows.pow_int hc.1 hc.2 q
theorem fdivW {i j : Int} (h0 : 0 < j) (h : j ≤ 100000000000000000000000000000000) : CDivW i j := by
  refine wide_div (b := 130) h0 ?_ (by decide) (by decide)
  have e : (2 : Nat) ^ 130 = 1361129467683753853853498429727072845824 := by decide +kernel
  rw [e]
  omega

/-- len(x) in a comprehension's block: the reading by K -/
def rLenK (K : PySem.W.Frag) : List V → Hp → VK → Prop := fun xs H Q => ∃ p ys, xs = [V.ref p] ∧ (SqL K H p ys ∨ SqT K H p ys) ∧ Q (.int (ys.length : Nat)) H

/-! ### heaps -/
/-- all that was tracked, but what stands at a, is as it was -/
def But (a : Addr) (H H' : Hp) : Prop := ∀ b o, b ≠ a → H b = some o → H' b = some o
theorem But.of {a : Addr} {H H' : Hp} (h : Same H H') : But a H H' := fun b o _ e => h b o e
theorem But.refl (a : Addr) (H : Hp) : But a H H := fun _ _ _ e => e
theorem But.trans {a : Addr} {H H1 H2 : Hp} (x : But a H H1) (y : But a H1 H2) : But a H H2 := fun b o n e => y b o n (x b o n e)
theorem But.upd (a : Addr) (H : Hp) (o : HO) : But a H (upd H a o) := fun b u n e => by rw [upd_ne n]; exact e
theorem same_new {H : Hp} {p : Addr} (o : HO) (h : H p = none) : Same H (upd H p o) := fun b x e => by
  rw [upd_ne (ne_of_none e h)]; exact e
theorem But.new {a : Addr} {H H1 : Hp} {p : Addr} (o : HO) (x : But a H H1) (h : H1 p = none) : But a H (L2.upd H1 p o) := x.trans (But.of (same_new o h))
/-- what was new and is changed: all else is as it was -/
theorem same_but {H H1 H2 : Hp} {p : Addr} (s : Same H H1) (n : H p = none) (b : But p H1 H2) : Same H H2 := fun c o e =>
  b c o (ne_of_none e n) (s c o e)
/-- a list that is read, at another place than a -/
def Oth (K : PySem.W.Frag) (a : Addr) (H : Hp) (l : Addr) (xs : List V) : Prop := SqL K H l xs ∧ (l ≠ a ∨ H l = none)
theorem But.seq {K : PySem.W.Frag} {a l : Addr} {H H' : Hp} {xs : List V} (b : But a H H') (h : SqL K H l xs) (n : l ≠ a) : SqL K H' l xs := by
  rcases h with (h | ⟨o, h⟩) | h
  · exact .inl (.inl (b _ _ n h))
  · exact .inl (.inr ⟨o, b _ _ n h⟩)
  · exact .inr h
/-- the script: locked, or of the module -/
def Scr (K : PySem.W.Frag) (H : Hp) (a : Addr) (xs : List V) : Prop := (∃ o, H a = some (.frz o (.lst xs))) ∨ ∀ H', SqL K H' a xs
theorem Scr.sq {K : PySem.W.Frag} {H : Hp} {a : Addr} {xs : List V} (h : Scr K H a xs) : SqL K H a xs := by
  rcases h with ⟨o, h⟩ | h
  · exact .inl (.inr ⟨o, h⟩)
  · exact h H
theorem scr_of {K : PySem.W.Frag} {H : Hp} {a : Addr} {xs : List V} (hO : Only H) (h : SqL K H a xs) : Scr K H a xs := by
  rcases h with (h | ⟨o, h⟩) | h
  · rcases hO a with z | ⟨o, ys, z⟩ <;> (rw [h] at z; cases z)
  · exact .inl ⟨o, h⟩
  · exact .inr fun _ => .inr h
theorem Scr.same {K : PySem.W.Frag} {H H' : Hp} {a : Addr} {xs : List V} (h : Scr K H a xs) (s : Same H H') : Scr K H' a xs := by
  rcases h with ⟨o, h⟩ | h
  · exact .inl ⟨o, s _ _ h⟩
  · exact .inr h
theorem Scr.but {K : PySem.W.Frag} {H H' : Hp} {a p : Addr} {xs : List V} (h : Scr K H a xs) (n : ∀ o u, H p ≠ some (.frz o u)) (b : But p H H') : Scr K H' a xs := by
  rcases h with ⟨o, h⟩ | h
  · exact .inl ⟨o, b _ _ (fun e => n _ _ (e ▸ h)) h⟩
  · exact .inr h

/-! ### loops in the shape that our promises have -/
theorem ite_t {c A B : Prop} [Decidable c] (hc : c) (h : A) : if c then A else B := by rw [if_pos hc]; exact h
theorem ite_f {c A B : Prop} [Decidable c] (hc : ¬ c) (h : B) : if c then A else B := by rw [if_neg hc]; exact h
theorem same_set {H H1 : Hp} {p : Addr} {o : HO} (s : Same H H1) (n : H p = none) : Same H (upd H1 p o) := fun b u e => by
  rw [upd_ne (ne_of_none e n)]
  exact s b u e
theorem same_lay {H H1 : Hp} {p : Addr} {o : HO} (s : Same H H1) (n : H1 p = none) : Same H (upd H1 p o) := same_set s (s.free n)
theorem take_map_succ {α β : Type} (f : α → β) {xs : List α} {i : Nat} {x : α} (h : xs[i]? = some x) : (xs.take i).map f ++ [f x] = (xs.take (i + 1)).map f := by
  rw [List.take_add_one, h, List.map_append]
  rfl
theorem get_map {α β : Type} {f : α → β} {xs : List α} {i : Nat} {y : β} (h : (xs.map f)[i]? = some y) : ∃ x, xs[i]? = some x ∧ y = f x := by
  rw [List.getElem?_map] at h
  cases e : xs[i]? with
  | none => rw [e] at h; cases h
  | some x => rw [e] at h; exact ⟨x, rfl, (Option.some.inj h).symm⟩
theorem get_lt {α : Type} {xs : List α} {i : Nat} {x : α} (h : xs[i]? = some x) : i < xs.length := (List.getElem?_eq_some_iff.mp h).1
theorem small_of {n m : Nat} (h : n ≤ m) (hm : m ≤ 100000) : n < sizeLine := by rw [sizeLine_eq]; omega
theorem small_le {n m : Nat} (h : n ≤ m) (hm : m ≤ 100000) : n ≤ sizeLine := by rw [sizeLine_eq]; omega
/-- ints of a list within bounds -/
def within (lo hi : Int) (ns : List Int) : Bool := ns.all fun n => decide (lo ≤ n ∧ n ≤ hi)
theorem bits_le {x : Int} {b : Nat} (h : x.natAbs < 2 ^ b) (hb : 0 < b) : Builtin.Int.intBits x ≤ b := by
  have l := PySem.Flt.log2_lt_of hb h
  unfold Builtin.Int.intBits
  split <;> omega

/-! ### the end of a law's row, where the law calls repr -/
theorem nil_no {α : Type} {b : α} (h : b ∈ ([] : List α)) {p : Prop} : p := by cases h
theorem lawG {P : Program} {w : World} {K : PySem.W.Frag} {mg mb : Str → Option Value} {CX : CXT} {k : Nat} {fa a : Addr} {fd : FuncData} {x : Str} {sp : Sp} {s₁ : Shared} {vs : List Value} {ns : List Int}
    (KX : K.In s₁.heap) (hns : s₁.heap.Ns mainGlobals mg) (hb : s₁.heap.Ns builtinsNs mb) (hbb : ∀ x : Str, x ≠ "__name__" → mb x = bootBuiltins x)
    (hlim : s₁.heap.NoLimit) (hg : s₁.gens = #[]) (ha : s₁.heap.get? a = some { cls := .type "list", data := .seq vs.toArray })
    (hi : IntsAre vs ns) (hl : ns.length ≤ sizeLine) (hr : Room k callerA)
    (F : ∀ base : Heap, K.In base → base.Ns mainGlobals mg → FnG P w K mg base CX k fa fd [x] sp)
    (hbind : ∀ (s : Shared) (u : Value), BindsTo s fd ⟨[u], []⟩ [(x, u)])
    (hsp : ∀ H : Hp, Only H → SqL K H a (ns.map V.int) → sp [.ref a] H (fun v _ => v = .bl true) fun _ _ _ => False)
    (hCX : ∀ H e s', CX [] H s₁ (fun _ _ _ => False) e s' → False) :
    codeAny (model P w) callerA (.call (.ref fa) ⟨[.ref a], []⟩)
      (fun r s' => r = .ok (.ret (.bool true)) ∧ OldK s₁.heap s'.heap ∧ s'.os = s₁.os ∧ AllBare s'.gens) s₁ := by
  have rv := vals_ints hi
  have lenV := hi.length
  /- H: what is tracked at the entry, the script at most -/
  have core : ∀ H : Hp, Only H → SqL K H a (ns.map V.int) → HOk P w H s₁.heap → (∀ b, H b ≠ none → b = a) →
      (H a ≠ none → K.lookup a = none) →
      codeAny (model P w) callerA (.call (.ref fa) ⟨[.ref a], []⟩)
        (fun r s' => r = .ok (.ret (.bool true)) ∧ OldK s₁.heap s'.heap ∧ s'.os = s₁.os ∧ AllBare s'.gens) s₁ := by
    intro H hO hS ok hA hK
    have onlyA : ∀ {b : Addr}, (b = a → False) → H b = none := fun {b} hn => by
      cases q : H b with
      | none => rfl
      | some u => exact (hn (hA b (by rw [q]; exact fun z => nomatch z))).elim
    have nsK : ∀ {b : Addr} {m : Str → Option Value}, s₁.heap.Ns b m → (hidT s₁.heap H).Ns b m := by
      rintro b m ⟨o, es, ep, e, d, r⟩
      refine ⟨o, es, ep, hidT_get e (onlyA fun z => ?_), d, r⟩
      subst z
      rw [ha] at e
      cases e
      exact nomatch d
    have hKb : K.In (hidT s₁.heap H) := fun b o e => by
      refine hidT_get (KX b o e) ?_
      cases q : H b with
      | none => rfl
      | some u =>
        have e' : b = a := hA b (by rw [q]; exact fun z => nomatch z)
        subst e'
        rw [hK (by rw [q]; exact fun z => nomatch z)] at e
        cases e
    obtain ⟨mc, h1, h2⟩ := hlim
    have hM : Mod K mg (hidT s₁.heap H) := ⟨hKb, nsK hns, ⟨mb, nsK hb, hbb⟩, ⟨mc, nsK h1, h2⟩⟩
    have e0 : Env0 P w K mg (hidT s₁.heap H) callerA [] s₁ H :=
      ⟨rfl, hM, fun b o e => of_hidT e, Nat.le_of_eq (hidT_size _ _), trivial, (fun b z => nil_no z), ok, AllBare.of_eq hg⟩
    have run := (F _ hKb (nsK hns)).go callerA [] s₁ H ⟨[.ref a], []⟩ [.ref a] [.ref a] _ _ rfl hr e0 (hbind s₁ (.ref a)) (.cons rfl .nil) (hsp H hO hS)
    refine codeAny_mono run fun r s' h => ?_
    match r, h with
    | .error e, h => exact (hCX H e s' h).elim
    | .ok .next, h => exact h.elim
    | .ok .brk, h => exact h.elim
    | .ok .cont, h => exact h.elim
    | .ok (.ret u), h =>
      obtain ⟨v, H', os, bare, un, hok', r', q⟩ := h
      obtain rfl : v = .bl true := q
      obtain rfl : u = Value.bool true := r'
      refine ⟨rfl, OldK.of_keep fun b o e => ?_, os, bare⟩
      rcases hO b with z | ⟨ob, xs, z⟩
      · exact un.keep b o e z (fun y => nil_no y) (fun y => nil_no y)
      · have e1 := (ok b _ z).1
        have e2 := (hok' b _ (un.frzs b ob _ z)).1
        rw [e] at e1
        cases e1
        exact e2
  cases hk : K.lookup a with
  | some o =>
    have e := KX a o hk
    rw [ha] at e
    cases e
    refine core (fun _ => none) (fun _ => .inl rfl) (.inr ⟨_, vs.toArray, _, hk, rfl, rfl, rfl, ?_, by simpa using rv⟩) ?_ (fun b z => absurd rfl z) (fun z => absurd rfl z)
    · rw [List.size_toArray, lenV]
      exact hl
    · intro b u z
      exact nomatch (show (none : Option HO) = some u from z)
  | none =>
    have at_ : ∀ b u, (if b = a then some (HO.frz { cls := .type "list", data := .seq vs.toArray } (.lst (ns.map V.int))) else none) = some u → b = a ∧ u = HO.frz { cls := .type "list", data := .seq vs.toArray } (.lst (ns.map V.int)) := fun b u z => by
      by_cases hb : b = a
      · rw [if_pos hb] at z
        exact ⟨hb, (Option.some.inj z).symm⟩
      · rw [if_neg hb] at z
        cases z
    refine core (fun b => if b = a then some (HO.frz { cls := .type "list", data := .seq vs.toArray } (.lst (ns.map V.int))) else none) (fun b => ?_) (.inl (.inr ⟨{ cls := .type "list", data := .seq vs.toArray }, if_pos rfl⟩)) (fun b u z => ?_) (fun b z => ?_) fun _ => hk
    · by_cases hb : b = a
      · exact .inr ⟨_, _, if_pos hb⟩
      · exact .inl (if_neg hb)
    · obtain ⟨hb, rfl⟩ := at_ b u z
      subst hb
      exact ⟨ha, by rw [List.length_map]; exact hl, vs, _, rv, ha⟩
    · by_cases hb : b = a
      · exact hb
      · exact absurd (if_neg hb) z
/-- the goal that the head leaves, from such a promise of the law's def -/
theorem walkG {l : PySem.W.OpenLaw} {n k : Nat} {q : Program} {loose : List Str} {XP : (Str → Option Value) → Heap → Prop} {YP : World → Heap → Prop} {d : DefRec} {K : Params → PySem.W.Frag} {CX : World → CXT} {sp : World → Sp} {x : Str}
    (hn : l.most = some n) (hn2 : n ≤ sizeLine) (hdf : d.params.defaults = []) (hr : Room k callerA) (hY : ∀ (w : World) (h : Heap), YP w h → (K w.params).In h)
    (F : ∀ (w : World) (mg : Str → Option Value) (fa : Addr) (h : Heap), (K w.params).In h → h.Ns mainGlobals mg → mg d.name = some (.ref fa) →
      ∃ fd : FuncData, (∀ (s : Shared) (u : Value), BindsTo s fd ⟨[u], []⟩ [(x, u)]) ∧ ∀ base : Heap, (K w.params).In base → base.Ns mainGlobals mg → FnG l.prog w (K w.params) mg base (CX w) k fa fd [x] (sp w))
    (hsp : ∀ (w : World) (H : Hp) (a : Addr) (ns : List Int), ns.length ≤ n → Only H → SqL (K w.params) H a (ns.map V.int) → sp w [.ref a] H (fun v _ => v = .bl true) fun _ _ _ => False)
    (hCX : ∀ (w : World) (H : Hp) (s : Shared) (e : Value) (s' : Shared), CX w [] H s (fun _ _ _ => False) e s' → False) :
    PySem.W.WalkO q loose XP YP l.row.toRowW d [] (fun f vs => PySem.call f vs) := by
  refine Att.attach_call hn hdf fun w s₀ s₁ mg mb fa o pm cd doc a vs ns G Y ho hd hcd hmg hobj hints hlen hg => ?_
  have KX := hY w _ Y
  obtain ⟨fd, hb, hF⟩ := F w mg fa _ KX G.T.g hmg
  exact lawG KX G.T.g G.T.b G.T.builtins G.T.nolimit hg hobj hints (Nat.le_trans hlen hn2) hr hF hb (fun H hO hS => hsp w H a ns hlen hO hS) (fun H e s' => hCX w H s₁ e s')
end Lc

/-! the mathematics of layouts: plain Lean -/
namespace Lc
/-- the first place of m -/
def ix (m : Int) : List Int → Nat
  | [] => 0
  | x :: xs => if x = m then 0 else ix m xs + 1
theorem ix_get {m : Int} : ∀ {cs : List Int}, m ∈ cs → cs[ix m cs]? = some m
  | [], h => by cases h
  | x :: xs, h => by
    unfold ix
    by_cases e : x = m
    · rw [if_pos e, e]; rfl
    · rw [if_neg e, List.getElem?_cons_succ]
      exact ix_get ((List.mem_cons.mp h).resolve_left fun z => e z.symm)
theorem ix_first {m : Int} : ∀ {cs : List Int} {k : Nat} {z : Int}, k < ix m cs → cs[k]? = some z → z ≠ m
  | [], k, z, h, e => by cases e
  | x :: xs, k, z, h, e => by
    unfold ix at h
    by_cases q : x = m
    · rw [if_pos q] at h; omega
    · rw [if_neg q] at h
      cases k with
      | zero => exact fun r => q ((Option.some.inj e).trans r)
      | succ k => exact ix_first (m := m) (cs := xs) (k := k) (by omega) (by simpa using e)
/-- the least item -/
def mn : List Int → Int
  | [] => 0
  | [x] => x
  | x :: y :: r => if x ≤ mn (y :: r) then x else mn (y :: r)
theorem mn_spec : ∀ {cs : List Int}, cs ≠ [] → mn cs ∈ cs ∧ ∀ y ∈ cs, mn cs ≤ y
  | [], h => absurd rfl h
  | [x], _ => ⟨List.mem_singleton.mpr rfl, fun y hy => by rw [List.mem_singleton.mp hy]; exact Int.le_refl _⟩
  | x :: y :: r, _ => by
    have ih := mn_spec (cs := y :: r) (by simp)
    show (if x ≤ mn (y :: r) then x else mn (y :: r)) ∈ _ ∧ ∀ z ∈ x :: y :: r, (if x ≤ mn (y :: r) then x else mn (y :: r)) ≤ z
    by_cases h : x ≤ mn (y :: r)
    · rw [if_pos h]
      refine ⟨List.mem_cons_self, fun z hz => ?_⟩
      rcases List.mem_cons.mp hz with rfl | hz
      · exact Int.le_refl _
      · exact Int.le_trans h (ih.2 z hz)
    · rw [if_neg h]
      refine ⟨List.mem_cons_of_mem _ ih.1, fun z hz => ?_⟩
      rcases List.mem_cons.mp hz with rfl | hz
      · omega
      · exact ih.2 z hz
theorem mn_eq {cs : List Int} {m : Int} (h : m ∈ cs) (h2 : ∀ y ∈ cs, m ≤ y) : mn cs = m := by
  have hn : cs ≠ [] := fun e => by rw [e] at h; cases h
  have s := mn_spec hn
  exact Int.le_antisymm (s.2 m h) (h2 _ s.1)
/-- the left one, or the right one, of the lowest columns -/
def low (r : Bool) (cs : List Int) : Nat := if r = true then cs.length - 1 - ix (mn cs) cs.reverse else ix (mn cs) cs
theorem low_get {r : Bool} {cs : List Int} (h : cs ≠ []) : cs[low r cs]? = some (mn cs) := by
  have s := (mn_spec h).1
  unfold low
  cases r with
  | false => rw [if_neg (by simp)]; exact ix_get s
  | true =>
    rw [if_pos rfl]
    have g := ix_get (cs := cs.reverse) (List.mem_reverse.mpr s)
    have l := (List.getElem?_eq_some_iff.mp g).1
    rw [List.getElem?_reverse (by simpa using l)] at g
    exact g
theorem low_lt {r : Bool} {cs : List Int} (h : cs ≠ []) : low r cs < cs.length := (List.getElem?_eq_some_iff.mp (low_get h)).1
/-- one card -/
def put (r : Bool) (s : List (Nat × Int) × List Int) (h : Int) : List (Nat × Int) × List Int :=
  (s.1 ++ [(low r s.2, mn s.2)], s.2.set (low r s.2) (mn s.2 + h))
/-- the places (column, top) of the cards, the columns behind them -/
def play (r : Bool) (cs hs : List Int) : List (Nat × Int) × List Int := hs.foldl (put r) ([], cs)
theorem play_snoc (r : Bool) (cs hs : List Int) (h : Int) : play r cs (hs ++ [h]) = put r (play r cs hs) h := by
  unfold play
  rw [List.foldl_append]
  rfl
theorem play_take {r : Bool} {cs hs : List Int} {i : Nat} {h : Int} (e : hs[i]? = some h) : play r cs (hs.take (i + 1)) = put r (play r cs (hs.take i)) h := by
  rw [List.take_add_one, e]
  exact play_snoc r cs _ h
theorem fold_len2 (r : Bool) : ∀ (hs : List Int) (s : List (Nat × Int) × List Int), (hs.foldl (put r) s).2.length = s.2.length ∧ (hs.foldl (put r) s).1.length = s.1.length + hs.length
  | [], s => ⟨rfl, rfl⟩
  | h :: hs, s => by
    have q := fold_len2 r hs (put r s h)
    refine ⟨q.1.trans (List.length_set ..), q.2.trans ?_⟩
    show (s.1 ++ [_]).length + hs.length = s.1.length + (hs.length + 1)
    rw [List.length_append]
    simp only [List.length_cons, List.length_nil]
    omega
theorem play_cols (r : Bool) (cs hs : List Int) : (play r cs hs).2.length = cs.length := (fold_len2 r hs _).1
theorem play_len (r : Bool) (cs hs : List Int) : (play r cs hs).1.length = hs.length := by
  have := (fold_len2 r hs ([], cs)).2
  simpa [play] using this
theorem ixN_nat {n j : Nat} (h : j < n) : L2.ixN n (j : Int) = some j := by
  unfold L2.ixN
  rw [if_pos (by omega), if_pos (by omega)]
  rfl
theorem play_append (r : Bool) (cs xs ys : List Int) : play r cs (xs ++ ys) = ys.foldl (put r) (play r cs xs) := List.foldl_append ..
theorem fold_pre (r : Bool) : ∀ (hs : List Int) (s : List (Nat × Int) × List Int), ∃ t, (hs.foldl (put r) s).1 = s.1 ++ t
  | [], s => ⟨[], (List.append_nil _).symm⟩
  | h :: hs, s => by
    obtain ⟨t, e⟩ := fold_pre r hs (put r s h)
    refine ⟨(low r s.2, mn s.2) :: t, e.trans ?_⟩
    show (s.1 ++ [_]) ++ t = _
    rw [List.append_assoc]
    rfl
/-- the i-th place is found by the first i cards -/
theorem play_at {r : Bool} {cs hs : List Int} {i : Nat} {h : Int} (e : hs[i]? = some h) : (play r cs hs).1[i]? = some (low r (play r cs (hs.take i)).2, mn (play r cs (hs.take i)).2) := by
  have il : i < hs.length := (List.getElem?_eq_some_iff.mp e).1
  have e1 : hs = hs.take (i + 1) ++ hs.drop (i + 1) := (List.take_append_drop _ _).symm
  obtain ⟨t, et⟩ := fold_pre r (hs.drop (i + 1)) (play r cs (hs.take (i + 1)))
  have e2 : (play r cs hs).1 = (play r cs (hs.take (i + 1))).1 ++ t := by
    conv => lhs; rw [e1, play_append]
    exact et
  have l1 : (play r cs (hs.take i)).1.length = i := by
    have := (fold_len2 r (hs.take i) ([], cs)).2
    simp only [play] at this ⊢
    rw [this, List.length_take]
    simp only [List.length_nil]
    omega
  rw [e2, play_take e]
  show ((play r cs (hs.take i)).1 ++ [_] ++ t)[i]? = _
  rw [List.append_assoc, List.getElem?_append_right (by omega), l1, Nat.sub_self]
  rfl
/-- the tops, the end -/
def tops (cs hs : List Int) : List Int := (play false cs hs).1.map (·.2)
def ends (cs hs : List Int) : List Int := (play false cs hs).2
theorem tops_len (cs hs : List Int) : (tops cs hs).length = hs.length := by
  unfold tops
  rw [List.length_map, play_len]
theorem play_ne {r : Bool} {cs hs : List Int} (h : cs ≠ []) : (play r cs hs).2 ≠ [] := fun e => h (List.length_eq_zero_iff.mp (by rw [← play_cols r cs hs, e]; rfl))
end Lc

namespace Lc
open PySem PySem.Spec PyProof.Rows L2
/-- data of depth at most k and N items at most, ints of at most 90 digits -/
structure Nc (k N : Nat) (d : PyData) : Prop where
  sh : d.showable = true
  cl : d.canLay0 = true
  dp : d.depth ≤ k
  lf : d.leavesShort 100 = true
  bk : d.bulk ≤ N
theorem nc_int {i : Int} (h : i.natAbs < 10 ^ 90) : Nc 0 0 (.int i) := by
  refine ⟨?_, rfl, Nat.le_refl _, ?_, Nat.le_refl _⟩
  · show decide (i.natAbs.log2 < 1920) = true
    have e : (10 : Nat) ^ 90 ≤ 2 ^ 1000 := by decide +kernel
    exact decide_eq_true (Nat.lt_trans (PySem.Flt.log2_lt_of (by decide) (Nat.lt_of_lt_of_le h e)) (by decide))
  · simp only [PyData.leavesShort, decide_eq_true_eq]
    have := int_text_length_le10 (a := i) (k := 90) (by decide) h
    show (Str.ofString (toString i)).length ≤ 100
    rw [PySem.ofString_length]
    omega
theorem nc_all {k N : Nat} : ∀ {ds : List PyData}, (∀ d ∈ ds, Nc k N d) → PyData.showableAll ds = true ∧ PyData.canLayAll0 ds = true ∧ PyData.depthAll ds ≤ k ∧ PyData.leavesShortAll 100 ds = true ∧ PyData.bulkAll ds ≤ ds.length * (N + 1)
  | [], _ => ⟨rfl, rfl, Nat.zero_le _, rfl, Nat.zero_le _⟩
  | d :: ds, h => by
    have h1 := h d List.mem_cons_self
    obtain ⟨a, b, c, e, f⟩ := nc_all fun x hx => h x (List.mem_cons_of_mem d hx)
    refine ⟨?_, ?_, ?_, ?_, ?_⟩
    · simp only [PyData.showableAll, h1.sh, a, Bool.and_self]
    · simp only [PyData.canLayAll0, h1.cl, b, Bool.and_self]
    · simp only [PyData.depthAll]
      exact Nat.max_le.mpr ⟨h1.dp, c⟩
    · simp only [PyData.leavesShortAll, h1.lf, e, Bool.and_self]
    · simp only [PyData.bulkAll, List.length_cons]
      have := h1.bk
      rw [Nat.add_mul]
      omega
theorem nc_list {k N : Nat} {ds : List PyData} (h : ∀ d ∈ ds, Nc k N d) : Nc (k + 1) (ds.length * (N + 1)) (.list ds) := by
  obtain ⟨a, b, c, e, f⟩ := nc_all h
  refine ⟨by simpa only [PyData.showable] using a, by simpa only [PyData.canLay0] using b, ?_, by simpa only [PyData.leavesShort] using e, by simpa only [PyData.bulk] using f⟩
  simp only [PyData.depth]
  omega
theorem nc_tup {k N : Nat} {ds : List PyData} (h : ∀ d ∈ ds, Nc k N d) : Nc (k + 1) (ds.length * (N + 1)) (.tuple ds) := by
  obtain ⟨a, b, c, e, f⟩ := nc_all h
  refine ⟨by simpa only [PyData.showable] using a, by simpa only [PyData.canLay0] using b, ?_, by simpa only [PyData.leavesShort] using e, by simpa only [PyData.bulk] using f⟩
  simp only [PyData.depth]
  omega
theorem Nc.mono {k N k' N' : Nat} {d : PyData} (h : Nc k N d) (h1 : k ≤ k') (h2 : N ≤ N') : Nc k' N' d := ⟨h.sh, h.cl, Nat.le_trans h.dp h1, h.lf, Nat.le_trans h.bk h2⟩
theorem Nc.nice {k N : Nat} {d : PyData} (h : Nc k N d) (h1 : k ≤ 40) (h2 : N ≤ 100000) : Nice d :=
  ⟨h.sh, PyData.hasDict_of_canLay d h.cl, Nat.le_trans h.dp h1, h.lf, Nat.le_trans h.bk h2⟩
theorem Nc.shaped {k N : Nat} {d : PyData} (h : Nc k N d) (h1 : k ≤ 40) : SeqAt.shaped d = true := by
  unfold SeqAt.shaped
  rw [h.cl, Bool.true_and]
  exact decide_eq_true (Nat.le_trans h.dp (by omega))
theorem nc_ints {ns : List Int} {N : Nat} (h : ∀ n ∈ ns, n.natAbs < 10 ^ 90) (hl : ns.length ≤ N) : Nc 1 N (.list (ns.map PyData.int)) := by
  have q := nc_list (k := 0) (N := 0) (ds := ns.map PyData.int) fun d hd => by
    obtain ⟨n, hn, rfl⟩ := List.mem_map.mp hd
    exact nc_int (h n hn)
  rw [List.length_map] at q
  exact q.mono (by decide) (by omega)
/-- any list of ints is data that == reads -/
theorem shapedInts (ns : List Int) : SeqAt.shaped (.list (ns.map PyData.int)) = true := by
  have a : ∀ ns : List Int, PyData.canLayAll0 (ns.map PyData.int) = true ∧ PyData.depthAll (ns.map PyData.int) = 0 := fun ns => by
    induction ns with
    | nil => exact ⟨rfl, rfl⟩
    | cons n ns ih => exact ⟨by simp only [List.map_cons, PyData.canLayAll0, PyData.canLay0, ih.1, Bool.and_self], by simp only [List.map_cons, PyData.depthAll, PyData.depth, ih.2]; rfl⟩
  unfold SeqAt.shaped
  simp only [PyData.canLay0, PyData.depth, (a ns).1, (a ns).2]
  decide
theorem dpInts {K : PySem.W.Frag} {H : Hp} : ∀ ns : List Int, DpAll K H (ns.map V.int) (ns.map PyData.int)
  | [] => .nil
  | n :: ns => .cons (.int n) (dpInts ns)
end Lc

namespace Lc
open PySem PySem.Spec PyProof.Rows L2
/-! columns as sorted lists -/
def Sorted (l : List Int) : Prop := l.Pairwise (· ≤ ·)
theorem set_perm : ∀ (ls : List Int) (j : Nat) (v : Int), j < ls.length → (ls.set j v).Perm (v :: ls.eraseIdx j)
  | [], _, _, h => absurd h (by simp)
  | _ :: _, 0, _, _ => List.Perm.refl _
  | x :: ls, j + 1, v, h => by
    have h' : j < ls.length := by simpa using h
    show (x :: ls.set j v).Perm (v :: x :: ls.eraseIdx j)
    exact ((set_perm ls j v h').cons x).trans (List.Perm.swap v x _)
theorem erase_perm : ∀ (ls : List Int) (j : Nat) (x : Int), ls[j]? = some x → (x :: ls.eraseIdx j).Perm ls
  | [], _, _, h => by cases h
  | y :: _, 0, x, h => by cases h; exact List.Perm.refl _
  | y :: ls, j + 1, x, h => by
    have h' : ls[j]? = some x := by simpa using h
    show (x :: y :: ls.eraseIdx j).Perm (y :: ls)
    exact (List.Perm.swap y x _).trans ((erase_perm ls j x h').cons y)
theorem sorted_head {x : Int} {l cs : List Int} (s : Sorted (x :: l)) (p : (x :: l).Perm cs) : mn cs = x :=
  mn_eq (p.subset List.mem_cons_self) fun y hy => by
    rcases List.mem_cons.mp (p.symm.subset hy) with rfl | h
    · exact Int.le_refl _
    · exact (List.pairwise_cons.mp s).1 y h
/-- one card, by the sorted columns -/
theorem put_sorted {r : Bool} {st : List (Nat × Int) × List Int} {x h : Int} {l l' : List Int} (s : Sorted (x :: l)) (p : (x :: l).Perm st.2) (q : l'.Perm ((x + h) :: l)) : l'.Perm (put r st h).2 := by
  have hne : st.2 ≠ [] := fun e => by rw [e] at p; exact absurd p.length_eq (by simp)
  have em := sorted_head s p
  have g := low_get (r := r) hne
  show l'.Perm (st.2.set (low r st.2) (mn st.2 + h))
  rw [em] at g ⊢
  refine q.trans ((List.Perm.cons _ ?_).trans (set_perm _ _ _ (low_lt hne)).symm)
  exact List.Perm.cons_inv (p.trans (erase_perm _ _ _ g).symm)
/-- a height put back at its place -/
theorem sorted_ins {h : Int} {l : List Int} {k : Nat} (s : Sorted l) (hlt : ∀ j z, j < k → l[j]? = some z → z < h) (hge : ∀ z, l[k]? = some z → h ≤ z) : Sorted (l.take k ++ [h] ++ l.drop k) := by
  have s1 : Sorted (l.take k) := s.sublist (List.take_sublist ..)
  have s2 : Sorted (l.drop k) := s.sublist (List.drop_sublist ..)
  have lo : ∀ z ∈ l.take k, z < h := fun z hz => by
    obtain ⟨j, hj, e⟩ := List.getElem_of_mem hz
    have hjk : j < k := by rw [List.length_take] at hj; omega
    refine hlt j z hjk ?_
    have := List.getElem?_eq_getElem hj
    rw [e, List.getElem?_take_of_lt hjk] at this
    exact this
  have hi : ∀ z ∈ l.drop k, h ≤ z := fun z hz => by
    cases e : l.drop k with
    | nil => rw [e] at hz; cases hz
    | cons y ys =>
      have hy : h ≤ y := by
        refine hge y ?_
        have := congrArg (·[0]?) e
        simpa [List.getElem?_drop] using this
      rw [e] at hz s2
      rcases List.mem_cons.mp hz with rfl | hz
      · exact hy
      · exact Int.le_trans hy ((List.pairwise_cons.mp s2).1 z hz)
  refine List.pairwise_append.mpr ⟨List.pairwise_append.mpr ⟨s1, List.pairwise_singleton _ _, fun a ha b hb => ?_⟩, s2, fun a ha b hb => ?_⟩
  · rw [List.mem_singleton.mp hb]
    exact Int.le_of_lt (lo a ha)
  · rcases List.mem_append.mp ha with ha | ha
    · exact Int.le_trans (Int.le_of_lt (lo a ha)) (hi b hb)
    · rw [List.mem_singleton.mp ha]; exact hi b hb
theorem ins_perm (l : List Int) (k : Nat) (h : Int) : (l.take k ++ [h] ++ l.drop k).Perm (h :: l) := by
  have e : (l.take k ++ [h] ++ l.drop k).Perm (h :: (l.take k ++ l.drop k)) := by
    rw [List.append_assoc]
    exact List.perm_middle
  rwa [List.take_append_drop] at e
theorem sorted_uniq : ∀ {a b : List Int}, Sorted a → Sorted b → a.Perm b → a = b
  | [], b, _, _, p => (List.Perm.nil_eq p)
  | x :: a, [], _, _, p => absurd p.length_eq (by simp)
  | x :: a, y :: b, sa, sb, p => by
    have e : y = x := by
      have h1 := sorted_head sa p
      have h2 := sorted_head sb p.symm
      have m1 := (mn_spec (cs := y :: b) (by simp))
      have m2 := (mn_spec (cs := x :: a) (by simp))
      have e1 : mn (x :: a) = mn (y :: b) := mn_eq (p.symm.subset m1.1) fun z hz => m1.2 z (p.subset hz)
      exact h2.symm.trans (e1.trans h1)
    subst e
    rw [sorted_uniq (List.pairwise_cons.mp sa).2 (List.pairwise_cons.mp sb).2 (List.Perm.cons_inv p)]
/-- slices -/
theorem cut_from {xs : List Int} {k : Nat} (h : k ≤ xs.length) : cutV (xs.map V.int) (some (k : Int)) none = (xs.drop k).map V.int := by
  unfold cutV
  rw [HT.sIx_nat, HT.sIx_none, List.length_map, Nat.min_eq_left h, ← List.map_drop, ← List.map_take, List.take_of_length_le (by rw [List.length_drop]; omega)]
theorem cut_to {xs : List Int} {k : Nat} (h : k ≤ xs.length) : cutV (xs.map V.int) none (some (k : Int)) = (xs.take k).map V.int := by
  unfold cutV
  rw [HT.sIx_nat, HT.sIx_none, List.length_map, Nat.min_eq_left h, ← List.map_drop, ← List.map_take]
  rfl
theorem cut_mid {xs : List Int} {i k : Nat} (h : k ≤ xs.length) (h2 : i ≤ k) : cutV (xs.map V.int) (some (i : Int)) (some (k : Int)) = ((xs.drop i).take (k - i)).map V.int := by
  unfold cutV
  rw [HT.sIx_nat, HT.sIx_nat, List.length_map, Nat.min_eq_left h, Nat.min_eq_left (by omega), ← List.map_drop, ← List.map_take]
end Lc

namespace Lc
open PySem PySem.Spec PyProof.Rows L2
theorem mn_perm {a b : List Int} (h : a ≠ []) (p : a.Perm b) : mn a = mn b := by
  have m := mn_spec (cs := b) (fun e => h (by rw [e] at p; exact p.eq_nil))
  exact mn_eq (p.symm.subset m.1) fun y hy => m.2 y (p.subset hy)
theorem put_cols (r : Bool) (s : List (Nat × Int) × List Int) (h : Int) (hne : s.2 ≠ []) : ∃ l, (mn s.2 :: l).Perm s.2 ∧ (put r s h).2.Perm ((mn s.2 + h) :: l) :=
  ⟨s.2.eraseIdx (low r s.2), erase_perm _ _ _ (low_get hne), set_perm _ _ _ (low_lt hne)⟩
theorem put_ne {r : Bool} {s : List (Nat × Int) × List Int} {h : Int} (hne : s.2 ≠ []) : (put r s h).2 ≠ [] := fun e => hne (by
  have : (s.2.set (low r s.2) (mn s.2 + h)).length = 0 := by show ((put r s h).2).length = 0; rw [e]; rfl
  rw [List.length_set] at this
  exact List.length_eq_zero_iff.mp this)
/-- the order of the columns, and the side, change no top and no height at the end -/
theorem fold_perm (r r' : Bool) : ∀ (hs : List Int) (s s' : List (Nat × Int) × List Int), s.2 ≠ [] → s.2.Perm s'.2 → s.1.map (·.2) = s'.1.map (·.2) →
    (hs.foldl (put r) s).1.map (·.2) = (hs.foldl (put r') s').1.map (·.2) ∧ (hs.foldl (put r) s).2.Perm (hs.foldl (put r') s').2
  | [], s, s', _, p, e => ⟨e, p⟩
  | h :: hs, s, s', hne, p, e => by
    have hne' : s'.2 ≠ [] := fun z => hne (by rw [z] at p; exact p.eq_nil)
    have em := mn_perm hne p
    obtain ⟨l, p1, p2⟩ := put_cols r s h hne
    obtain ⟨l', p1', p2'⟩ := put_cols r' s' h hne'
    have pl : l.Perm l' := List.Perm.cons_inv (a := mn s.2) (p1.trans (p.trans (by rw [em]; exact p1'.symm)))
    refine fold_perm r r' hs (put r s h) (put r' s' h) (put_ne hne) (p2.trans ((pl.cons _).trans ?_)) ?_
    · rw [em]; exact p2'.symm
    · show (s.1 ++ [(low r s.2, mn s.2)]).map (·.2) = (s'.1 ++ [(low r' s'.2, mn s'.2)]).map (·.2)
      rw [List.map_append, List.map_append, e, em]
      rfl
theorem tops_perm {cs os hs : List Int} (hne : cs ≠ []) (p : os.Perm cs) : tops os hs = tops cs hs :=
  (fold_perm false false hs ([], os) ([], cs) (fun e => hne (by have e' : os = [] := e; rw [e'] at p; exact p.nil_eq.symm)) p rfl).1
theorem ends_perm {cs os hs : List Int} (hne : cs ≠ []) (p : os.Perm cs) : (ends os hs).Perm (ends cs hs) :=
  (fold_perm false false hs ([], os) ([], cs) (fun e => hne (by have e' : os = [] := e; rw [e'] at p; exact p.nil_eq.symm)) p rfl).2
/-- tops never descend -/
theorem fold_sorted (r : Bool) : ∀ (hs : List Int) (s : List (Nat × Int) × List Int), s.2 ≠ [] → (∀ h ∈ hs, 0 ≤ h) → Sorted (s.1.map (·.2)) → (∀ t ∈ s.1.map (·.2), t ≤ mn s.2) → Sorted ((hs.foldl (put r) s).1.map (·.2))
  | [], s, _, _, so, _ => so
  | h :: hs, s, hne, hp, so, le => by
    obtain ⟨l, p1, p2⟩ := put_cols r s h hne
    have h0 := hp h List.mem_cons_self
    have m0 := mn_spec hne
    have m1 := mn_spec (put_ne (r := r) (h := h) hne)
    have up : mn s.2 ≤ mn (put r s h).2 := by
      rcases List.mem_cons.mp (p2.subset m1.1) with e | e
      · rw [e]; omega
      · exact m0.2 _ (p1.subset (List.mem_cons_of_mem _ e))
    have e1 : (put r s h).1.map (·.2) = s.1.map (·.2) ++ [mn s.2] := by
      show (s.1 ++ [(low r s.2, mn s.2)]).map (·.2) = _
      rw [List.map_append]; rfl
    refine fold_sorted r hs (put r s h) (put_ne hne) (fun x hx => hp x (List.mem_cons_of_mem _ hx)) ?_ ?_
    · rw [e1]
      refine List.pairwise_append.mpr ⟨so, List.pairwise_singleton _ _, fun a ha b hb => ?_⟩
      rw [List.mem_singleton.mp hb]
      exact le a ha
    · rw [e1]
      intro t ht
      rcases List.mem_append.mp ht with ht | ht
      · exact Int.le_trans (le t ht) up
      · rw [List.mem_singleton.mp ht]; exact up
theorem tops_sorted {cs hs : List Int} (hne : cs ≠ []) (hp : ∀ h ∈ hs, 0 ≤ h) : Sorted (tops cs hs) :=
  fold_sorted false hs ([], cs) hne hp List.Pairwise.nil fun t ht => by cases ht
/-- how high the columns, the tops, get -/
theorem fold_high (r : Bool) (B : Int) : ∀ (hs : List Int) (s : List (Nat × Int) × List Int) (M : Int), s.2 ≠ [] → (∀ h ∈ hs, 0 ≤ h ∧ h ≤ B) → (∀ c ∈ s.2, 0 ≤ c ∧ c ≤ M) → (∀ t ∈ s.1.map (·.2), 0 ≤ t ∧ t ≤ M) → 0 ≤ B →
    (∀ c ∈ (hs.foldl (put r) s).2, 0 ≤ c ∧ c ≤ M + hs.length * B) ∧ ∀ t ∈ (hs.foldl (put r) s).1.map (·.2), 0 ≤ t ∧ t ≤ M + hs.length * B
  | [], s, M, _, _, hc, ht, hB => ⟨fun c h => by have := hc c h; simp; omega, fun t h => by have := ht t h; simp; omega⟩
  | h :: hs, s, M, hne, hp, hc, ht, hB => by
    obtain ⟨l, p1, p2⟩ := put_cols r s h hne
    have h0 := hp h List.mem_cons_self
    have m0 := hc _ (mn_spec hne).1
    have q := fold_high r B hs (put r s h) (M + B) (put_ne hne) (fun x hx => hp x (List.mem_cons_of_mem _ hx)) (fun c hcm => ?_) (fun t htm => ?_) hB
    · have e : M + ((h :: hs).length : Nat) * B = M + B + (hs.length : Nat) * B := by
        rw [List.length_cons]
        have : (((hs.length + 1 : Nat)) : Int) * B = (hs.length : Int) * B + B := by
          rw [Int.natCast_add, Int.add_mul]; simp
        rw [this]; omega
      rw [e]
      exact q
    · rcases List.mem_cons.mp (p2.subset hcm) with e | e
      · rw [e]; omega
      · have := hc c (p1.subset (List.mem_cons_of_mem _ e)); omega
    · have e1 : (put r s h).1.map (·.2) = s.1.map (·.2) ++ [mn s.2] := by
        show (s.1 ++ [(low r s.2, mn s.2)]).map (·.2) = _
        rw [List.map_append]; rfl
      rw [e1] at htm
      rcases List.mem_append.mp htm with htm | htm
      · have := ht t htm; omega
      · rw [List.mem_singleton.mp htm]; omega
theorem nat_pow_big {n : Int} (h0 : 0 ≤ n) (h1 : n ≤ 1000000000000000000000000000000000) : n.natAbs < 10 ^ 90 := by
  have e : (10 : Nat) ^ 40 = 10000000000000000000000000000000000000000 := by decide +kernel
  have h3 : n.natAbs < 10 ^ 40 := by rw [e]; omega
  exact Nat.lt_of_lt_of_le h3 (Nat.pow_le_pow_right (by decide) (by decide))
theorem play_high {r : Bool} {cs hs : List Int} (hne : cs ≠ []) (hc : ∀ c ∈ cs, 0 ≤ c ∧ c ≤ 1000000000000000000000000000000) (hh : ∀ h ∈ hs, 1 ≤ h ∧ h ≤ 1000000000000000000000000000000) (hl : hs.length ≤ 200) :
    (∀ c ∈ (play r cs hs).2, c.natAbs < 10 ^ 90) ∧ ∀ t ∈ (play r cs hs).1.map (·.2), t.natAbs < 10 ^ 90 := by
  have q := fold_high r 1000000000000000000000000000000 hs ([], cs) 1000000000000000000000000000000 hne (fun h hm => by have := hh h hm; omega) hc (fun t ht => by cases ht) (by decide)
  have hb : 1000000000000000000000000000000 + (hs.length : Int) * 1000000000000000000000000000000 ≤ 1000000000000000000000000000000000 := by omega
  exact ⟨fun c h => by have := q.1 c h; exact nat_pow_big this.1 (Int.le_trans this.2 hb), fun t h => by have := q.2 t h; exact nat_pow_big this.1 (Int.le_trans this.2 hb)⟩
end Lc

namespace Lc
open PySem PySem.Spec PyProof.Rows L2
/-- a comprehension over enumerate of a list -/
theorem lc_enum {K : PySem.W.Frag} {a D : Addr} {xs : List V} {g : TG} {tt : TT} {te : TE} {vs : List Nat} {σ : L2.St} {H0 : Hp} {Qd : Hp → Prop}
    (Pv : Nat → Hp → Prop) (h0 : Pv 0 (upd H0 D (.lst []))) (hl : ∀ i H, i ≤ xs.length → Pv i H → SqL K H a xs)
    (hs : ∀ i x H T, xs[i]? = some x → Pv i H → H T = none → g (.ref T) (wipe σ vs) (upd H T (.tup [.int (i : Nat), x])) fun σ2 H2 =>
      wipe σ2 vs = wipe σ vs ∧ tt σ2 H2 fun b H3 => if b = true then te σ2 H3 fun y H4 => ∃ acc, H4 D = some (.lst acc) ∧ acc.length < sizeLine ∧ Pv (i + 1) (upd H4 D (.lst (acc ++ [y]))) else Pv (i + 1) H3)
    (hd : ∀ H, Pv xs.length H → Qd H) :
    ∃ W : Nat → Nat → Hp → Prop, (∃ m, W 0 m (upd H0 D (.lst []))) ∧ ∀ i m H, W i m H →
      (((Ite K a).stop i H ∧ Qd H) ∨ ((Ite K a).go i H ∧ ∃ Nx : Hp → Prop, (∀ H', Nx H' → ∃ m', m' < m ∧ W (i + 1) m' H') ∧
        ∀ x H', (Ite K a).yld i H x H' → g x (wipe σ vs) H' fun σ2 H2 => wipe σ2 vs = wipe σ vs ∧ tt σ2 H2 fun b H3 =>
          if b = true then te σ2 H3 fun y H4 => ∃ acc, H4 D = some (.lst acc) ∧ acc.length < sizeLine ∧ Nx (upd H4 D (.lst (acc ++ [y]))) else Nx H3)) := by
  refine ⟨fun i m H => m + i = xs.length ∧ Pv i H, ⟨xs.length, rfl, h0⟩, fun i m H hW => ?_⟩
  obtain ⟨em, p⟩ := hW
  have q := hl i H (by omega) p
  by_cases h : i < xs.length
  · refine .inr ⟨⟨xs, xs[i], q, List.getElem?_eq_getElem h⟩, Pv (i + 1), fun H' p' => ⟨m - 1, by omega, by omega, p'⟩, fun v H' y => ?_⟩
    obtain ⟨T, x, e1, nT, e2, hx⟩ := y
    subst e1
    subst e2
    exact hs i x H T (hx xs q) p nT
  · have e : i = xs.length := by omega
    subst e
    exact .inl ⟨⟨xs, q, Nat.le_refl _⟩, hd H p⟩
/-- min of a list of pairs of ints that an int of each pair orders -/
def PairAt (H : Hp) (v : V) (p : Int × Int) : Prop := ∃ q, v = .ref q ∧ H q = some (.tup [.int p.1, .int p.2])
def rMinP (K : PySem.W.Frag) : List V → Hp → VK → Prop := fun vs H Q => ∃ (a : Addr) (items : List V) (ps : List (Int × Int)) (f : Int × Int → Int), vs = [V.ref a] ∧ SqL K H a items ∧ items.length = ps.length ∧ 0 < ps.length ∧
  (∀ (i : Nat) (v : V) (p : Int × Int), items[i]? = some v → ps[i]? = some p → PairAt H v p) ∧
  (∀ p p', p ∈ ps → p' ∈ ps → HT.lexLt [p.1, p.2] [p'.1, p'.2] = decide (f p < f p')) ∧
  ∀ (i : Nat) (q : Addr) (p : Int × Int), items[i]? = some (.ref q) → ps[i]? = some p → H q = some (.tup [.int p.1, .int p.2]) → (∀ p' ∈ ps, f p ≤ f p') → Q (.ref q) H
theorem cr_minP {X : Cx} (hc : X.calm = true) (hu : X.A.units + 64 < cLine) : CallR X (.builtin "min") (rMinP X.K) := by
  intro pins s σ H vs us Q I r h
  obtain ⟨a, items, ps, f, rfl, hs, hlen, hpos, hp, hf, q⟩ := h
  obtain ⟨its, rv, pl, _⟩ := I.list hs
  obtain ⟨u, rfl, ru⟩ := vals1 r
  obtain rfl : u = Value.ref a := ru
  have hl := pl.isList
  have at_ : ∀ (i : Nat) (v : Value), its.toArray[i]? = some v → ∃ q p, v = .ref q ∧ ps[i]? = some p ∧ H q = some (.tup [.int p.1, .int p.2]) := fun i v e => by
    have e' : its[i]? = some v := by simpa using e
    have hi : i < items.length := by rw [rv.length]; exact (List.getElem?_eq_some_iff.mp e').1
    obtain ⟨u, hu', ru⟩ := rv.get (List.getElem?_eq_getElem hi)
    rw [e'] at hu'
    cases hu'
    obtain ⟨q, eq, hq⟩ := hp i _ _ (List.getElem?_eq_getElem hi) (List.getElem?_eq_getElem (by omega))
    rw [eq] at ru
    exact ⟨q, _, ru, List.getElem?_eq_getElem (by omega), hq⟩
  have hsz : its.toArray.size = ps.length := by rw [List.size_toArray, ← rv.length, hlen]
  refine PySem.call_min_walkH (iter_any hl fun s₂ e2 st hne => ?_)
  subst e2
  have W := (Walks.list (prog := X.prog) (w := X.w) (A := X.A.in1) (I.ok.hd hc) s.heap.objs.size a hne its.toArray).toS
  refine ⟨_, _, _, _, _, _, _, s.heap, fun i j => decide (f (ps.getD i (0, 0)) < f (ps.getD j (0, 0))), rfl, W, st, ?_, by rw [hsz]; exact hpos, ?_, ?_, ?_, fun v s' hP hm => ?_⟩
  · intro b hb
    simp only [List.mem_cons, List.not_mem_nil, or_false] at hb
    rcases hb with rfl | rfl
    · simp [Heap.push]
    · exact Nat.lt_of_lt_of_le (by obtain ⟨_, e, _⟩ := hl; exact Heap.lt_size e) (by simp [Heap.push])
  · intro b o e hb
    rw [List.mem_singleton.mp hb] at e
    exact Nat.lt_irrefl _ (Heap.lt_size e)
  · intro b o e
    exact Heap.get?_push_of_some _ e
  · intro i j vi vj s1 Q1 E1 hk ei ej hq
    obtain ⟨q1, p1, rfl, ep1, h1⟩ := at_ i vi ei
    obtain ⟨q2, p2, rfl, ep2, h2⟩ := at_ j vj ej
    obtain ⟨_, t1, r1, o1, g1, c1⟩ := (show ObjOk X.prog X.w H s.heap q1 (.tup _) from I.hok q1 _ h1)
    obtain ⟨_, t2, r2, o2, g2, c2⟩ := (show ObjOk X.prog X.w H s.heap q2 (.tup _) from I.hok q2 _ h2)
    have i1 : IntsAre t1.toArray.toList [p1.1, p1.2] := intsAre_of r1
    have i2 : IntsAre t2.toArray.toList [p2.1, p2.2] := intsAre_of r2
    have m1 : p1 ∈ ps := List.mem_of_getElem? ep1
    have m2 : p2 ∈ ps := List.mem_of_getElem? ep2
    show wpAny _ _ (compareOp .Lt (.ref q1) (.ref q2)) Q1 E1 s1
    refine HT.lt_tupInts ⟨o1, hk _ _ g1, c1⟩ ⟨o2, hk _ _ g2, c2⟩ i1 i2 (by show X.A.units + 1 < cLine; omega) ?_
    rw [hf p1 p2 m1 m2]
    have hq' : Q1 (Value.bool (decide (f (ps.getD i (0, 0)) < f (ps.getD j (0, 0))))) s1 := hq
    rw [List.getD_eq_getElem?_getD, List.getD_eq_getElem?_getD, ep1, ep2] at hq'
    exact hq'
  · obtain ⟨b1, b2⟩ := argBest_lt (fun i => f (ps.getD i (0, 0))) (its.toArray.size - 1)
    have hP' : its.toArray[argBest (fun i j => decide (f (ps.getD i (0, 0)) < f (ps.getD j (0, 0)))) (its.toArray.size - 1)]? = some v := hP
    generalize argBest (fun i j => decide (f (ps.getD i (0, 0)) < f (ps.getD j (0, 0)))) (its.toArray.size - 1) = k at hP' b1 b2
    obtain ⟨q1, p1, rfl, ep1, h1⟩ := at_ k v hP'
    have hit : items[k]? = some (.ref q1) := by
      have hk : k < items.length := by have := (List.getElem?_eq_some_iff.mp ep1).1; omega
      obtain ⟨q2, e2, h2⟩ := hp k _ _ (List.getElem?_eq_getElem hk) ep1
      obtain ⟨u, hu', ru⟩ := rv.get (List.getElem?_eq_getElem hk)
      have hP2 : its[k]? = some (Value.ref q1) := by simpa using hP'
      rw [hP2] at hu'
      cases hu'
      rw [e2] at ru
      have e3 : Value.ref q1 = Value.ref q2 := ru
      cases e3
      rw [List.getElem?_eq_getElem hk, e2]
    refine ⟨.ref q1, H, ?_, rfl, q k q1 p1 hit ep1 h1 fun p' hp' => ?_⟩
    · obtain ⟨h', g', d', t', o'⟩ := s'
      obtain ⟨m1, m2, m3, m4, m5⟩ := hm
      have e2 : g' = s.gens := m2
      have e3 : d' = s.drawn := m3
      have e4 : o' = s.os := m4
      subst e2 e3 e4
      refine I.kept fun b o e => m1 b o (fun hb => ?_) (Heap.get?_push_of_some _ e)
      rw [List.mem_singleton.mp hb] at e
      exact Nat.lt_irrefl _ (Heap.lt_size e)
    · obtain ⟨j, hj, e5⟩ := List.getElem_of_mem hp'
      have := b2 j (by omega)
      rw [List.getD_eq_getElem?_getD, List.getD_eq_getElem?_getD, ep1, List.getElem?_eq_getElem hj, e5] at this
      exact this
end Lc

namespace Lc
open PySem PySem.Spec PyProof.Rows L2
theorem low_char {r : Bool} {cs : List Int} {i : Nat} (h : cs[i]? = some (mn cs)) (h2 : ∀ j : Nat, cs[j]? = some (mn cs) → if r = true then j ≤ i else i ≤ j) : i = low r cs := by
  have hi : i < cs.length := (List.getElem?_eq_some_iff.mp h).1
  have hne : cs ≠ [] := fun e => by rw [e] at hi; simp at hi
  have g := low_get (r := r) hne
  have q := h2 _ g
  cases r with
  | false =>
    have q' : i ≤ low false cs := q
    by_cases e : i = low false cs
    · exact e
    · have lt : i < ix (mn cs) cs := by
        have : low false cs = ix (mn cs) cs := rfl
        omega
      exact absurd rfl (ix_first lt h)
  | true =>
    have q' : low true cs ≤ i := q
    by_cases e : i = low true cs
    · exact e
    · have el : low true cs = cs.length - 1 - ix (mn cs) cs.reverse := rfl
      have lt : cs.length - 1 - i < ix (mn cs) cs.reverse := by
        have := (List.getElem?_eq_some_iff.mp (ix_get (cs := cs.reverse) (List.mem_reverse.mpr (mn_spec hne).1))).1
        rw [List.length_reverse] at this
        omega
      have h3 : cs.reverse[cs.length - 1 - i]? = some (mn cs) := by
        rw [List.getElem?_reverse (by omega), show cs.length - 1 - (cs.length - 1 - i) = i by omega]
        exact h
      exact absurd rfl (ix_first lt h3)
/-- the pairs (height, side * place) of the columns -/
def prs (sd : Int) (cs : List Int) : List (Int × Int) := (List.range cs.length).map fun j => (cs.getD j 0, sd * (j : Int))
theorem prs_len (sd : Int) (cs : List Int) : (prs sd cs).length = cs.length := by unfold prs; rw [List.length_map, List.length_range]
theorem prs_get {sd : Int} {cs : List Int} {i : Nat} {p : Int × Int} (h : (prs sd cs)[i]? = some p) : ∃ c, cs[i]? = some c ∧ p = (c, sd * (i : Int)) := by
  have hi : i < cs.length := by rw [← prs_len sd cs]; exact (List.getElem?_eq_some_iff.mp h).1
  unfold prs at h
  rw [List.getElem?_map, List.getElem?_range hi] at h
  refine ⟨cs[i], List.getElem?_eq_getElem hi, ?_⟩
  have := Option.some.inj h
  rw [← this]
  show (cs.getD i 0, _) = _
  rw [List.getD_eq_getElem?_getD, List.getElem?_eq_getElem hi]
  rfl
theorem prs_at {sd : Int} {cs : List Int} {i : Nat} {c : Int} (h : cs[i]? = some c) : (prs sd cs)[i]? = some (c, sd * (i : Int)) := by
  have hi : i < cs.length := (List.getElem?_eq_some_iff.mp h).1
  unfold prs
  rw [List.getElem?_map, List.getElem?_range hi]
  show some (cs.getD i 0, _) = _
  rw [List.getD_eq_getElem?_getD, h]
  rfl
def ordP (p : Int × Int) : Int := p.1 * 64 + p.2
theorem side_abs {sd : Int} {j : Nat} (hs : sd = 1 ∨ sd = -1) (hj : j < 31) : -31 < sd * (j : Int) ∧ sd * (j : Int) < 31 := by
  rcases hs with rfl | rfl <;> omega
theorem lex_ord {a b c d : Int} (hb : -31 < b ∧ b < 31) (hd : -31 < d ∧ d < 31) : HT.lexLt [a, b] [c, d] = decide (ordP (a, b) < ordP (c, d)) := by
  show (if a = c then (if b = d then false else decide (b < d)) else decide (a < c)) = decide (a * 64 + b < c * 64 + d)
  by_cases h : a = c
  · rw [if_pos h]
    subst h
    by_cases h2 : b = d
    · rw [if_pos h2]; subst h2; exact (decide_eq_false (by omega)).symm
    · rw [if_neg h2]
      by_cases h3 : b < d
      · rw [decide_eq_true h3, decide_eq_true (by omega)]
      · rw [decide_eq_false h3, decide_eq_false (by omega)]
  · rw [if_neg h]
    by_cases h3 : a < c
    · rw [decide_eq_true h3, decide_eq_true (by omega)]
    · rw [decide_eq_false h3, decide_eq_false (by omega)]
theorem prs_ord {sd : Int} {cs : List Int} (hs : sd = 1 ∨ sd = -1) (hl : cs.length ≤ 30) {p p' : Int × Int} (h : p ∈ prs sd cs) (h' : p' ∈ prs sd cs) : HT.lexLt [p.1, p.2] [p'.1, p'.2] = decide (ordP p < ordP p') := by
  have rd : ∀ p ∈ prs sd cs, -31 < p.2 ∧ p.2 < 31 := fun p hp => by
    obtain ⟨j, hj, e⟩ := List.mem_map.mp hp
    rw [← e]
    exact side_abs hs (by have := List.mem_range.mp hj; omega)
  exact lex_ord (rd p h) (rd p' h')
/-- the least pair is that of the lowest column -/
theorem prs_low {sd : Int} {r : Bool} {cs : List Int} (hs : sd = 1 ∧ r = false ∨ sd = -1 ∧ r = true) (hl : cs.length ≤ 30) {i : Nat} {p : Int × Int} (h : (prs sd cs)[i]? = some p) (hm : ∀ p' ∈ prs sd cs, ordP p ≤ ordP p') :
    p = (mn cs, sd * ((low r cs : Nat) : Int)) := by
  obtain ⟨c, ec, rfl⟩ := prs_get h
  have hi : i < cs.length := (List.getElem?_eq_some_iff.mp ec).1
  have hs' : sd = 1 ∨ sd = -1 := hs.elim (fun h => .inl h.1) (fun h => .inr h.1)
  have ai := side_abs (j := i) hs' (by omega)
  have le : ∀ y ∈ cs, c ≤ y := fun y hy => by
    obtain ⟨j, hj, e⟩ := List.getElem_of_mem hy
    have aj := side_abs (j := j) hs' (by omega)
    have m := hm _ (List.mem_of_getElem? (prs_at (sd := sd) (List.getElem?_eq_getElem hj)))
    have m' : c * 64 + sd * (i : Int) ≤ cs[j] * 64 + sd * (j : Int) := m
    rw [← e]
    omega
  have em : mn cs = c := mn_eq (List.mem_of_getElem? ec) le
  have e : i = low r cs := by
    refine low_char (by rw [em]; exact ec) fun j hj => ?_
    rw [em] at hj
    have m := hm _ (List.mem_of_getElem? (prs_at (sd := sd) hj))
    have m' : c * 64 + sd * (i : Int) ≤ c * 64 + sd * (j : Int) := m
    rcases hs with ⟨rfl, rfl⟩ | ⟨rfl, rfl⟩
    · show i ≤ j; omega
    · show j ≤ i; omega
  rw [em, ← e]
theorem side_low {sd : Int} {r : Bool} {n : Nat} (hs : sd = 1 ∧ r = false ∨ sd = -1 ∧ r = true) : sd * (sd * (n : Int)) = (n : Int) := by
  rcases hs with ⟨rfl, _⟩ | ⟨rfl, _⟩ <;> omega
theorem eraseV : ∀ (ls : List Int) (j : Nat), (ls.map V.int).eraseIdx j = (ls.eraseIdx j).map V.int
  | [], _ => rfl
  | _ :: _, 0 => rfl
  | x :: ls, j + 1 => by
    show V.int x :: (ls.map V.int).eraseIdx j = V.int x :: (ls.eraseIdx j).map V.int
    rw [eraseV ls j]
end Lc

namespace Lc
open PySem PySem.Spec PyProof.Rows L2
/-! ### xs[a:c] = ys, the ends written or not -/
section
variable {prog : Program} {w : World} {A : Around} {E : Value → Shared → Prop} {s : Shared}
theorem setItem_cut {l b sl : Addr} {items new : Array Value} {n n2 : Nat} {vl vu : Value} {lo hi : Option Int} {a c : Nat} {Q : Unit → Shared → Prop}
    (e : s.heap.get? l = some { cls := .type "list", data := .seq items n })
    (e2 : s.heap.get? b = some { cls := .type "list", data := .seq new n2 }) (ne : l ≠ b) (hs : s.heap.IsSliceOf sl vl vu .none)
    (pl : IsPart vl lo) (pu : IsPart vu hi) (hbd : sliceBounds lo hi none items.size = ((a : Int), (c : Int), 1)) (hac : a ≤ c) (hc : c ≤ items.size)
    (hsz : items.size + new.size ≤ sizeLine)
    (h : Q () { s with heap := s.heap.update l (Obj.mapSeq fun xs => xs.extract 0 a ++ new ++ xs.extract c xs.size) }) :
    wpAny (model prog w) A (setItem (.ref l) (.ref sl) (.ref b)) Q E s := by
  have hl : s.heap.IsList l items := PySem.IsL.isList e
  have hb : s.heap.IsList b new := PySem.IsL.isList e2
  obtain ⟨os, hos, hcs, hds⟩ := id hs
  have hTs : s.TypeIs (.ref sl) "slice" := ⟨os, hos, hcs⟩
  have n1 : ¬ ((rawPart none == rawInt 0) = true) := Bool.false_ne_true
  have n2' : Builtin.List.listSameRef (.ref l) (.ref b) = false := by unfold Builtin.List.listSameRef; exact beq_eq_false_iff_ne.mpr ne
  have n3 : (max (a : Int) (c : Int)).toNat = c := by omega
  have n4 : ((fun xs : Array Value => xs.extract 0 a ++ new ++ xs.extract c xs.size) items).size ≤ sizeLine + 1 := by
    simp only [Array.size_append, Array.size_extract]; omega
  unfold setItem
  try with_reducible refine wpAny_holding ?_
  first | refine wpAny_bind (wpAny_pure ?_) | skip
  refine wpAny_bind (wpAny_sequenceKey hl.typeIs (by decide) (wpAny_bind (wpAny_callSpecial?_slot (name := Str.ofString "__setitem__") hl.typeIs slot_list_setitem (wpAny_call_entry slot_list_setitem hl.typeIs entry_list_setitem ?_ (args_list_setitem _ _ _)))))
  show wpAny _ _ (Builtin.List.listSubscript? (.ref sl) >>= _) _ _ s
  refine wpAny_bind ?_
  unfold Builtin.List.listSubscript?
  refine wpAny_bind (wpAny_specialOf hTs slice_no_index ?_)
  simp only [Option.isNone_none, if_true]
  refine wpAny_pure ?_
  show wpAny _ _ (typeOf (.ref sl) >>= _) _ _ s
  refine wpAny_bind (wpAny_typeOf hTs ?_)
  rw [if_neg (by decide)]
  rw [listSliceParts_eq]
  refine wpAny_bind (wpAny_bind (wpAny_field hos hds (x := .none) rfl (wpAny_bind (wpAny_listPart .none ?_)))); rw [if_neg n1]
  refine wpAny_bind (wpAny_field hos hds (x := vl) rfl (wpAny_bind (wpAny_listPart pl (wpAny_bind (wpAny_field hos hds (x := vu) rfl (wpAny_bind (wpAny_listPart pu (wpAny_pure ?_))))))))
  simp only [n2', Bool.false_eq_true, if_false]
  refine wpAny_bind (m := Builtin.List.listAllItems (.ref b) _) ?_
  unfold Builtin.List.listAllItems
  refine wpAny_bind (wpAny_typeOf hb.typeIs ?_)
  simp only [beq_self_eq_true, Bool.true_or, if_true]
  unfold Builtin.List.listItems
  refine wpAny_bind (wpAny_seqItems e2 rfl (wpAny_pure (wpAny_bind (wpAny_bind (wpAny_seqItems e rfl (wpAny_pure ?_))))))
  refine wpAny_bind (wpAny_of_eq ((sliceIndices_raw lo hi none items.size (by simp)).trans (congrArg pure hbd)) ?_)
  show wpAny _ _ (if ((1 : Int) == 1) = true then _ else _) _ _ s
  rw [if_pos (by decide)]
  refine wpAny_bind (wpAny_rule ?_)
  simp only [notLongL hsz, Bool.false_eq_true, if_false]
  first | refine wpAny_bind (wpAny_pure ?_) | skip
  show wpAny _ _ (updateSeq l (fun xs => xs.extract 0 ((a : Int)).toNat ++ new ++ xs.extract (max (a : Int) (c : Int)).toNat xs.size) >>= _) _ _ s
  rw [n3, Int.toNat_natCast]
  refine wpAny_bind (wpAny_updateSeq (hz := Nat.le_trans (Nat.le_add_right _ _) hsz) (_hz' := n4) e rfl (wpAny_bind (wpAny_letGo ?_)))
  first
    | exact wpAny_bind (wpAny_pure (wpAny_pure ⟨.none, rfl, wpAny_pure h⟩))
    | exact wpAny_pure ⟨.none, rfl, wpAny_pure h⟩
end
section
variable {X : Cx}
def gCut (to : TE) (tl th : TO) : TG := fun v σ H Q => to σ H fun x H1 => tl σ H1 fun lo H2 => th σ H2 fun hi H3 => ∃ (p b : Addr) (xs ys : List V) (a c : Nat), x = .ref p ∧ v = .ref b ∧ H3 p = some (.lst xs) ∧ H3 b = some (.lst ys) ∧ p ≠ b ∧
  sliceBounds lo hi none xs.length = ((a : Int), (c : Int), 1) ∧ a ≤ c ∧ c ≤ xs.length ∧ xs.length + ys.length ≤ sizeLine ∧ Q σ (upd H3 p (.lst (xs.take a ++ ys ++ xs.drop c)))
theorem pg_cut {o : Expr} {lo hi : Option Expr} {to : TE} {tl th : TO} {p2 pos : Pos} (ho : PE X o to) (hl : PO X lo tl) (hu : PO X hi th)
    (ha : ∀ v, assign (.Subscript o (.Slice lo hi none p2) pos) X.env v = (holding [v] (eval o X.env) >>= fun x => holding [v, x] (eval (.Slice lo hi none p2) X.env) >>= fun y =>
      standAt pos >>= fun _ => holding [v, x, y] (setItem x y v) >>= fun _ => release [y, v, x] []) := by intro _; rfl) : PG X (.Subscript o (.Slice lo hi none p2) pos) (gCut to tl th) := by
  refine ⟨fun pins s σ H v u Q I r h => ?_⟩
  rw [ha]
  refine wpAny_bind (wpAny_holding (thn (ho.run pins s σ H _ I h) fun ov s1 ⟨x, H1, I1, r1, q1⟩ => wpAny_bind (wpAny_holding ?_)))
  refine wpAny_Slice (thn (hl.run pins s1 σ H1 _ I1 q1) fun vl s2 ⟨l, H2, I2, pl, q2⟩ => thn (hu.run pins s2 σ H2 _ I2 q2) fun vu s3 ⟨t, H3, I3, pu, q3⟩ => ?_)
  rw [evalPart_none]
  refine wpAny_pure (wpAny_bind (wpAny_standAt (wpAny_bind (wpAny_holding ?_))))
  obtain ⟨p, b, xs, ys, a, c, rfl, rfl, hp, hb, ne, hbd, hac, hc, hz, q⟩ := q3
  have I4 : Inv X pins σ H3 { s3 with heap := s3.heap.push { cls := .type "slice", data := .fields #[vl, vu, .none] } } :=
    I3.kept (t' := s3.toks) fun b ob q => Heap.get?_push_of_some _ q
  obtain rfl : ov = Value.ref p := r1
  obtain rfl : u = Value.ref b := r
  obtain ⟨z1, its1, m1, r1, l1, g1⟩ := I4.lstM hp
  obtain ⟨z2, its2, m2, r2, l2, g2⟩ := I4.lstM hb
  refine setItem_cut (a := a) (c := c) g1 g2 ne (Heap.IsSliceOf.new ..) pl pu (by rw [List.size_toArray, ← l1]; exact hbd) hac (by rw [List.size_toArray, ← l1]; exact hc) (by rw [List.size_toArray, List.size_toArray, ← l1, ← l2]; exact hz) ?_
  refine wpAny_release ⟨σ, _, I4.lset (its' := its1.take a ++ its2 ++ its1.drop c) (t' := s3.toks) hp g1 (splice_eq its1 its2 a c) (Vals.append (Vals.append (r1.take _) r2) (r1.drop _)) ?_, q⟩
  rw [List.length_append, List.length_append, List.length_take, List.length_drop]
  omega
end
theorem bounds_from {k n : Nat} (h : k ≤ n) : sliceBounds (some (k : Int)) none none n = ((k : Int), (n : Int), 1) := by
  simp only [sliceBounds, Option.getD_none]
  have h1 : ¬ ((k : Int) < 0) := by omega
  simp only [h1, if_false, show (1 : Int) > 0 by decide, if_true]
  congr 1
  omega
theorem bounds_min {k n : Nat} : sliceBounds (some (k : Int)) none none n = (((min k n : Nat) : Int), (n : Int), 1) := by
  simp only [sliceBounds, Option.getD_none]
  have h1 : ¬ ((k : Int) < 0) := by omega
  simp only [h1, if_false, show (1 : Int) > 0 by decide, if_true]
  congr 1
  omega
end Lc

namespace Lc
open PySem PySem.Spec PyProof.Rows L2
/-- the cards among the first n in a column -/
def inCol (ps : List (Nat × Int)) (k n : Nat) : List Nat := (List.range n).filter fun j => decide ((ps.map (·.1))[j]? = some k)
theorem inCol_succ {ps : List (Nat × Int)} {k n : Nat} {p : Nat × Int} (h : ps[n]? = some p) : inCol ps k (n + 1) = if p.1 = k then inCol ps k n ++ [n] else inCol ps k n := by
  unfold inCol
  rw [List.range_succ, List.filter_append]
  have e : (ps.map (·.1))[n]? = some p.1 := by rw [List.getElem?_map, h]; rfl
  by_cases q : p.1 = k
  · rw [if_pos q]
    simp [e, q]
  · rw [if_neg q]
    simp [e, q]
theorem filter_two {α : Type} (p q : α → Bool) (d : ∀ x, p x = true → q x = false) : ∀ l : List α, (l.filter p ++ l.filter q).Perm (l.filter fun x => p x || q x)
  | [] => List.Perm.refl _
  | x :: l => by
    have ih := filter_two p q d l
    cases hp : p x with
    | true =>
      have hq := d x hp
      rw [List.filter_cons_of_pos hp, List.filter_cons_of_neg (by simp [hq]), List.filter_cons_of_pos (by simp [hp])]
      exact ih.cons x
    | false =>
      cases hq : q x with
      | true =>
        rw [List.filter_cons_of_neg (by simp [hp]), List.filter_cons_of_pos hq, List.filter_cons_of_pos (by simp [hq])]
        exact (List.perm_middle).trans (ih.cons x)
      | false =>
        rw [List.filter_cons_of_neg (by simp [hp]), List.filter_cons_of_neg (by simp [hq]), List.filter_cons_of_neg (by simp [hp, hq])]
        exact ih
/-- the columns one behind another -/
def cols (ps : List (Nat × Int)) (n : Nat) : Nat → List Nat
  | 0 => []
  | m + 1 => cols ps n m ++ inCol ps m n
def colB (ps : List (Nat × Int)) (m j : Nat) : Bool := match (ps.map (·.1))[j]? with
  | some c => decide (c < m)
  | none => false
theorem cols_perm0 (ps : List (Nat × Int)) (n : Nat) : ∀ m, (cols ps n m).Perm ((List.range n).filter (colB ps m))
  | 0 => by
    have : ((List.range n).filter (colB ps 0)) = [] := by
      rw [List.filter_eq_nil_iff]
      intro j _
      unfold colB
      cases (ps.map (·.1))[j]? <;> simp
    rw [this]
    exact List.Perm.refl _
  | m + 1 => by
    have ih := cols_perm0 ps n m
    refine (List.Perm.append_right _ ih).trans ?_
    refine (filter_two _ _ (fun j hj => ?_) (List.range n)).trans ?_
    · unfold colB at hj
      cases h : (ps.map (·.1))[j]? with
      | none => rw [h] at hj; cases hj
      | some c =>
        rw [h] at hj
        have : c < m := of_decide_eq_true hj
        simp
        omega
    · refine List.Perm.of_eq (List.filter_congr fun j _ => ?_)
      unfold colB
      cases h : (ps.map (·.1))[j]? with
      | none => simp
      | some c =>
        simp only [Option.some.injEq]
        by_cases h1 : c < m
        · simp [h1, Nat.lt_succ_of_lt h1]
        · by_cases h2 : c = m
          · simp [h2]
          · have : ¬ c < m + 1 := by omega
            simp [h1, h2, this]
theorem cols_len (ps : List (Nat × Int)) (n : Nat) : ∀ m, (cols ps n m).length ≤ n := fun m => by
  rw [(cols_perm0 ps n m).length_eq]
  have := List.length_filter_le (colB ps m) (List.range n)
  rw [List.length_range] at this
  exact this
theorem cols_all {ps : List (Nat × Int)} {m : Nat} (h : ∀ p ∈ ps, p.1 < m) : (cols ps ps.length m).Perm (List.range ps.length) := by
  refine (cols_perm0 ps ps.length m).trans (List.Perm.of_eq ?_)
  rw [List.filter_eq_self]
  intro j hj
  have hj' := List.mem_range.mp hj
  unfold colB
  rw [List.getElem?_map, List.getElem?_eq_getElem hj']
  exact decide_eq_true (h _ (List.getElem_mem hj'))
theorem fold_lt (r : Bool) (n : Nat) : ∀ (hs : List Int) (s : List (Nat × Int) × List Int), s.2 ≠ [] → s.2.length = n → (∀ p ∈ s.1, p.1 < n) → ∀ p ∈ (hs.foldl (put r) s).1, p.1 < n
  | [], s, _, _, h => h
  | x :: hs, s, hne, hl, h => fold_lt r n hs (put r s x) (put_ne hne) (by show (s.2.set _ _).length = n; rw [List.length_set]; exact hl) fun p hp => by
    have hp' : p ∈ s.1 ++ [(low r s.2, mn s.2)] := hp
    rcases List.mem_append.mp hp' with hp' | hp'
    · exact h p hp'
    · rw [List.mem_singleton.mp hp', ← hl]
      exact low_lt hne
theorem play_lt {r : Bool} {cs hs : List Int} (h : cs ≠ []) : ∀ p ∈ (play r cs hs).1, p.1 < cs.length := fold_lt r cs.length hs ([], cs) h rfl fun p h => by cases h
def nat2 (l : List Nat) : List Int := l.map fun j => ((j : Nat) : Int)
theorem nat2_append (a b : List Nat) : nat2 (a ++ b) = nat2 a ++ nat2 b := List.map_append ..
theorem nat2_small {l : List Nat} (h : ∀ j ∈ l, j ≤ 1000) : ∀ n ∈ nat2 l, n.natAbs < 10 ^ 90 := fun n hn => by
  obtain ⟨j, hj, rfl⟩ := List.mem_map.mp hn
  exact nat_pow_big (by omega) (by have := h j hj; omega)
theorem range_sorted (n : Nat) : Sorted (nat2 (List.range n)) := by
  unfold nat2 Sorted
  rw [List.pairwise_map]
  exact (List.pairwise_lt_range (n := n)).imp fun h => by omega
end Lc

namespace Lc
open PySem PySem.Spec PyProof.Rows L2
/-- a comprehension over zip of two lists of one length -/
theorem lc_zip {K : PySem.W.Frag} {a b D : Addr} {xs ys : List V} {g : TG} {tt : TT} {te : TE} {vs : List Nat} {σ : L2.St} {H0 : Hp} {Qd : Hp → Prop}
    (hle : xs.length = ys.length) (Pv : Nat → Hp → Prop) (h0 : Pv 0 (upd H0 D (.lst []))) (hl : ∀ i H, i ≤ xs.length → Pv i H → SqL K H a xs ∧ SqL K H b ys)
    (hs : ∀ i x y H T, xs[i]? = some x → ys[i]? = some y → Pv i H → H T = none → g (.ref T) (wipe σ vs) (upd H T (.tup [x, y])) fun σ2 H2 =>
      wipe σ2 vs = wipe σ vs ∧ tt σ2 H2 fun b H3 => if b = true then te σ2 H3 fun y H4 => ∃ acc, H4 D = some (.lst acc) ∧ acc.length < sizeLine ∧ Pv (i + 1) (upd H4 D (.lst (acc ++ [y]))) else Pv (i + 1) H3)
    (hd : ∀ H, Pv xs.length H → Qd H) :
    ∃ W : Nat → Nat → Hp → Prop, (∃ m, W 0 m (upd H0 D (.lst []))) ∧ ∀ i m H, W i m H →
      (((Itz K a b).stop i H ∧ Qd H) ∨ ((Itz K a b).go i H ∧ ∃ Nx : Hp → Prop, (∀ H', Nx H' → ∃ m', m' < m ∧ W (i + 1) m' H') ∧
        ∀ x H', (Itz K a b).yld i H x H' → g x (wipe σ vs) H' fun σ2 H2 => wipe σ2 vs = wipe σ vs ∧ tt σ2 H2 fun b H3 =>
          if b = true then te σ2 H3 fun y H4 => ∃ acc, H4 D = some (.lst acc) ∧ acc.length < sizeLine ∧ Nx (upd H4 D (.lst (acc ++ [y]))) else Nx H3)) := by
  refine ⟨fun i m H => m + i = xs.length ∧ Pv i H, ⟨xs.length, rfl, h0⟩, fun i m H hW => ?_⟩
  obtain ⟨em, p⟩ := hW
  have q := hl i H (by omega) p
  by_cases h : i < xs.length
  · refine .inr ⟨⟨xs, ys, xs[i], ys[i]'(by omega), q.1, q.2, List.getElem?_eq_getElem h, List.getElem?_eq_getElem (by omega)⟩, Pv (i + 1), fun H' p' => ⟨m - 1, by omega, by omega, p'⟩, fun v H' y => ?_⟩
    obtain ⟨T, x, z, e1, nT, e2, hx, hy⟩ := y
    subst e1
    subst e2
    exact hs i x z H T (hx xs q.1) (hy ys q.2) p nT
  · have e : i = xs.length := by omega
    subst e
    exact .inl ⟨⟨xs, ys, q.1, q.2, .inl (Nat.le_refl _)⟩, hd H p⟩
/-! changed lists -/
def insAt (l : List Int) (i : Nat) (x : Int) : List Int := l.take i ++ [x] ++ l.drop i
def delAt (l : List Int) (i : Nat) : List Int := l.take i ++ l.drop (i + 1)
def grow (a b : List Int) : List Int := (a.zip b).map fun p => p.2 - p.1
theorem insAt_len {l : List Int} {i : Nat} {x : Int} (h : i ≤ l.length) : (insAt l i x).length = l.length + 1 := by
  unfold insAt
  simp only [List.length_append, List.length_take, List.length_drop, List.length_cons, List.length_nil]
  omega
theorem delAt_len {l : List Int} {i : Nat} (h : i < l.length) : (delAt l i).length = l.length - 1 := by
  unfold delAt
  simp only [List.length_append, List.length_take, List.length_drop]
  omega
theorem mem_insAt {l : List Int} {i : Nat} {x y : Int} (h : y ∈ insAt l i x) : y = x ∨ y ∈ l := by
  unfold insAt at h
  rcases List.mem_append.mp h with h | h
  · rcases List.mem_append.mp h with h | h
    · exact .inr (List.mem_of_mem_take h)
    · exact .inl (List.mem_singleton.mp h)
  · exact .inr (List.mem_of_mem_drop h)
theorem mem_delAt {l : List Int} {i : Nat} {y : Int} (h : y ∈ delAt l i) : y ∈ l := by
  unfold delAt at h
  rcases List.mem_append.mp h with h | h
  · exact List.mem_of_mem_take h
  · exact List.mem_of_mem_drop h
theorem grow_len {a b : List Int} (h : a.length = b.length) : (grow a b).length = a.length := by
  unfold grow
  rw [List.length_map, List.length_zip]
  omega
theorem grow_take {a b : List Int} {i : Nat} {x y : Int} (h1 : a[i]? = some x) (h2 : b[i]? = some y) : (grow a b)[i]? = some (y - x) := by
  unfold grow
  rw [List.getElem?_map, (List.getElem?_zip_eq_some (z := (x, y))).mpr ⟨h1, h2⟩]
  rfl
def effIns (cs hs : List Int) (i : Nat) (h : Int) : List Int := grow (tops cs hs) (delAt (tops cs (insAt hs i h)) i)
def effRem (cs hs : List Int) (i : Nat) : List Int := grow (delAt (tops cs hs) i) (tops cs (delAt hs i))
def effMov (cs hs : List Int) (i j : Nat) (x : Int) : List Int := grow (delAt (tops cs hs) i) (delAt (tops cs (insAt (delAt hs i) j x)) j)
def effStr (cs hs : List Int) (i : Nat) (h : Int) : List Int := grow (tops cs hs) (tops cs (insAt (delAt hs i) i h))
def effExc (cs hs : List Int) (i : Nat) (x : Int) : List Int := grow (tops cs hs) (tops cs (insAt (delAt hs i) (i + 1) x))
end Lc

namespace Lc
open PySem PySem.Spec PyProof.Rows L2
/-! the greatest item; max with default= -/
def mx (l : List Int) : Int := - mn (l.map fun x => - x)
theorem mx_spec {l : List Int} (h : l ≠ []) : mx l ∈ l ∧ ∀ y ∈ l, y ≤ mx l := by
  have s := mn_spec (cs := l.map fun x => - x) (fun e => h (by simpa using e))
  obtain ⟨x, hx, e⟩ := List.mem_map.mp s.1
  refine ⟨?_, fun y hy => ?_⟩
  · have : mx l = x := by unfold mx; omega
    rw [this]; exact hx
  · have := s.2 (-y) (List.mem_map.mpr ⟨y, hy, rfl⟩)
    unfold mx; omega
theorem mx_eq {l : List Int} {m : Int} (h : m ∈ l) (h2 : ∀ y ∈ l, y ≤ m) : mx l = m := by
  have hn : l ≠ [] := fun e => by rw [e] at h; cases h
  have s := mx_spec hn
  exact Int.le_antisymm (h2 _ s.1) (s.2 m h)
theorem mx_in {cs : List Int} {lo hi : Int} (hne : cs ≠ []) (h : ∀ n ∈ cs, lo ≤ n ∧ n ≤ hi) : lo ≤ mx cs ∧ mx cs ≤ hi := h _ (mx_spec hne).1
theorem mn_in {cs : List Int} {lo hi : Int} (hne : cs ≠ []) (h : ∀ n ∈ cs, lo ≤ n ∧ n ≤ hi) : lo ≤ mn cs ∧ mn cs ≤ hi := h _ (mn_spec hne).1
def mxD (l : List Int) (d : Int) : Int := if l = [] then d else mx l
def rMaxKD (K : PySem.W.Frag) : List V → List V → Hp → VK → Prop := fun vs zs H Q => ∃ (a : Addr) (ns : List Int) (d : Int), vs = [V.ref a] ∧ zs = [V.int d] ∧ SqL K H a (ns.map V.int) ∧ Q (.int (mxD ns d)) H
theorem cr_maxKD {X : Cx} (hc : X.calm = true) : CallRK X (.builtin "max") [Str.ofString "default"] (rMaxKD X.K) := by
  intro pins s σ H vs zs us ws Q I r rz h
  obtain ⟨a, ns, d, rfl, rfl, hs, q⟩ := h
  obtain ⟨its, rv, pl, _⟩ := I.list hs
  rw [Vals.ref1 r]
  obtain ⟨w, rfl, hw⟩ := vals1 rz
  obtain ⟨t, rfl⟩ : ∃ t, w = Value.int d t := hw
  have hi : IntsAre its ns := rv.ints
  have hl := pl.isList
  obtain ⟨xs, e⟩ := hi.allInts.items
  have hn : numsOf (intItems xs).toList = ns := by rw [← e]; exact hi.numsOf
  rw [nums_intItems] at hn
  rw [e] at hl
  have hsz : (intItems xs).size = ns.length := by rw [← e, List.size_toArray, ← rv.length, List.length_map]
  have hsx : xs.size = ns.length := by rw [← hn, List.length_map, Array.length_toList]
  refine PySem.call_max_walkD (PySem.W.iter_listW (I.ok.hd hc) hl fun s₂ e2 W st hfp hw hk => ?_)
  refine ⟨_, _, _, _, _, _, _, s.heap, fun i j => decide (numAt xs i > numAt xs j), rfl, W, st, hfp, hw, hk, fun h0 s' m => ?_, fun h0 => ⟨fun i j vi vj s1 Q1 E1 _ e1 e3 hq => CmpOf.ints_gt (numAt xs) (fun _ _ => intItems_at) i j vi vj s1 Q1 E1 e1 e3 hq, fun v s' hP m => ?_⟩⟩
  · obtain ⟨h', tk, es, hkk⟩ := PySem.W.moved_old e2 rfl m
    have en : ns = [] := List.length_eq_zero_iff.mp (by omega)
    subst es
    refine ⟨.int d, H, I.kept hkk, ⟨t, rfl⟩, ?_⟩
    unfold mxD at q
    rwa [if_pos en] at q
  · obtain ⟨h', tk, es, hkk⟩ := PySem.W.moved_old e2 rfl m
    subst es
    have hP' : (intItems xs)[argBest (fun i j => decide (numAt xs i > numAt xs j)) (xs.size - 1)]? = some v := by
      rw [show (intItems xs).size = xs.size by rw [hsz, hsx]] at hP
      exact hP
    obtain ⟨t2, rfl⟩ := intItems_at hP'
    obtain ⟨h1, h2⟩ := argBest_gt (numAt xs) (xs.size - 1)
    have hpos : 0 < ns.length := by omega
    have em : mx ns = numAt xs (argBest (fun i j => decide (numAt xs i > numAt xs j)) (xs.size - 1)) := by
      refine mx_eq ?_ fun y hy => ?_
      · rw [numAt_eq, ← hn]; exact PySem.getD_mem (by rw [List.length_map, Array.length_toList]; omega)
      · rw [← hn] at hy
        obtain ⟨j, hj, rfl⟩ := mem_getD hy
        rw [List.length_map, Array.length_toList] at hj
        rw [← numAt_eq]; exact h2 j (by omega)
    refine ⟨.int _, H, I.kept hkk, ⟨t2, rfl⟩, ?_⟩
    unfold mxD at q
    rw [if_neg (fun z => by rw [z] at hpos; exact absurd hpos (by decide)), em] at q
    exact q
/-! the columns stand out by the greatest height at most -/
theorem fold_spread (r : Bool) (D : Int) : ∀ (hs : List Int) (s : List (Nat × Int) × List Int), s.2 ≠ [] → (∀ h ∈ hs, 0 ≤ h ∧ h ≤ D) → (∀ c ∈ s.2, c ≤ mn s.2 + D) → ∀ c ∈ (hs.foldl (put r) s).2, c ≤ mn (hs.foldl (put r) s).2 + D
  | [], s, _, _, hc => hc
  | h :: hs, s, hne, hp, hc => by
    obtain ⟨l, p1, p2⟩ := put_cols r s h hne
    have h0 := hp h List.mem_cons_self
    have m0 := mn_spec hne
    have m1 := mn_spec (put_ne (r := r) (h := h) hne)
    have up : mn s.2 ≤ mn (put r s h).2 := by
      rcases List.mem_cons.mp (p2.subset m1.1) with e | e
      · rw [e]; omega
      · exact m0.2 _ (p1.subset (List.mem_cons_of_mem _ e))
    refine fold_spread r D hs (put r s h) (put_ne hne) (fun x hx => hp x (List.mem_cons_of_mem _ hx)) fun c hcm => ?_
    rcases List.mem_cons.mp (p2.subset hcm) with e | e
    · rw [e]; omega
    · have := hc c (p1.subset (List.mem_cons_of_mem _ e)); omega
theorem perm_sum {a b : List Int} (p : a.Perm b) : a.sum = b.sum := by
  induction p with
  | nil => rfl
  | cons x _ ih => rw [List.sum_cons, List.sum_cons, ih]
  | swap x y l => rw [List.sum_cons, List.sum_cons, List.sum_cons, List.sum_cons]; omega
  | trans _ _ h1 h2 => exact h1.trans h2
theorem sum_le_mul {B : Int} : ∀ {l : List Int}, (∀ c ∈ l, c ≤ B) → l.sum ≤ l.length * B
  | [], _ => by simp
  | x :: l, h => by
    have h1 := h x List.mem_cons_self
    have h2 := sum_le_mul (B := B) (l := l) fun c hc => h c (List.mem_cons_of_mem _ hc)
    have e : (((x :: l).length : Nat) : Int) * B = (l.length : Int) * B + B := by
      rw [List.length_cons, Int.natCast_add, Int.add_mul]; simp
    rw [List.sum_cons, e]; omega
theorem mul_le_sum {B : Int} : ∀ {l : List Int}, (∀ c ∈ l, B ≤ c) → l.length * B ≤ l.sum
  | [], _ => by simp
  | x :: l, h => by
    have h1 := h x List.mem_cons_self
    have h2 := mul_le_sum (B := B) (l := l) fun c hc => h c (List.mem_cons_of_mem _ hc)
    have e : (((x :: l).length : Nat) : Int) * B = (l.length : Int) * B + B := by
      rw [List.length_cons, Int.natCast_add, Int.add_mul]; simp
    rw [List.sum_cons, e]; omega
/-- what lowest_bounds finds -/
def lbD (cs hs : List Int) : Int := if mx cs - mn cs > mxD hs 0 then mx cs - mn cs else mxD hs 0
def lbLo (cs hs : List Int) : Int := -(((((cs.length : Nat) : Int) - 1) * lbD cs hs - (ends cs hs).sum) / ((cs.length : Nat) : Int))
theorem lbD_le (cs hs : List Int) : mx cs - mn cs ≤ lbD cs hs ∧ mxD hs 0 ≤ lbD cs hs := by
  unfold lbD
  split <;> omega
theorem lbD_mem {cs hs : List Int} : (lbD cs hs = mx cs - mn cs) ∨ lbD cs hs = mxD hs 0 := by
  unfold lbD
  split <;> simp
/-- the bounds of a division up -/
theorem ceil_facts {n X q : Int} (hn : 0 < n) (e : q = X / n) : n * (-q - 1) < -X ∧ -X ≤ n * -q := by
  have h1 := Int.mul_ediv_self_le (x := X) (k := n) (by omega)
  have h2 := Int.lt_mul_ediv_self_add (x := X) (k := n) hn
  rw [← e] at h1 h2
  rw [Int.mul_sub, Int.mul_neg, Int.mul_one]
  omega
theorem floor_facts {n X q : Int} (hn : 0 < n) (e : q = X / n) : n * q ≤ X ∧ X < n * (q + 1) := by
  have h1 := Int.mul_ediv_self_le (x := X) (k := n) (by omega)
  have h2 := Int.lt_mul_ediv_self_add (x := X) (k := n) hn
  rw [← e] at h1 h2
  rw [Int.mul_add, Int.mul_one]
  omega
theorem low_within {es : List Int} {D : Int} (hne : es ≠ []) (h : ∀ c ∈ es, c ≤ mn es + D) : es.sum - (((es.length : Nat) : Int) - 1) * D ≤ ((es.length : Nat) : Int) * mn es ∧ ((es.length : Nat) : Int) * mn es ≤ es.sum := by
  refine ⟨?_, mul_le_sum (mn_spec hne).2⟩
  have m := (mn_spec hne).1
  have g := ix_get m
  have p := erase_perm es (ix (mn es) es) (mn es) g
  have hs := perm_sum p
  have hl := p.length_eq
  have hb := sum_le_mul (B := mn es + D) (l := es.eraseIdx (ix (mn es) es)) fun c hc => h c (p.subset (List.mem_cons_of_mem _ hc))
  generalize es.eraseIdx (ix (mn es) es) = l at p hs hl hb
  rw [List.sum_cons] at hs
  rw [List.length_cons] at hl
  have e1 : ((es.length : Nat) : Int) = (l.length : Int) + 1 := by omega
  rw [e1, show ((l.length : Int) + 1 - 1) = (l.length : Int) by omega, Int.add_mul, Int.one_mul]
  rw [Int.mul_add] at hb
  omega
/-! a start that is nowhere higher: no top is greater -/
def cnt (t : Int) (l : List Int) : Nat := l.countP fun c => decide (c ≤ t)
def Dom (A B : List Int) : Prop := ∀ t, cnt t A ≤ cnt t B
theorem cnt_perm {t : Int} {a b : List Int} (p : a.Perm b) : cnt t a = cnt t b := p.countP_eq _
theorem cnt_cons (t x : Int) (l : List Int) : cnt t (x :: l) = cnt t l + if x ≤ t then 1 else 0 := by
  unfold cnt
  rw [List.countP_cons]
  by_cases h : x ≤ t
  · rw [if_pos (by simpa using h), if_pos h]
  · rw [if_neg (by simpa using h), if_neg h]
theorem cnt_zero {t : Int} {l : List Int} (h : ∀ c ∈ l, t < c) : cnt t l = 0 := by
  unfold cnt
  rw [List.countP_eq_zero]
  intro c hc
  have := h c hc
  simp; omega
theorem Dom.mn {A B : List Int} (h : Dom A B) (hA : A ≠ []) : B ≠ [] ∧ mn B ≤ mn A := by
  have s := mn_spec hA
  have h1 : 0 < cnt (Lc.mn A) A := List.countP_pos_iff.mpr ⟨_, s.1, by simp⟩
  have h2 : 0 < cnt (Lc.mn A) B := Nat.lt_of_lt_of_le h1 (h _)
  obtain ⟨c, hc, hle⟩ := List.countP_pos_iff.mp h2
  have hB : B ≠ [] := fun e => by rw [e] at hc; cases hc
  have := (mn_spec hB).2 c hc
  exact ⟨hB, by have : c ≤ Lc.mn A := by simpa using hle
                omega⟩
theorem Dom.put {r r' : Bool} {s s' : List (Nat × Int) × List Int} {x : Int} (h : Dom s.2 s'.2) (h0 : 0 ≤ x) (hne : s.2 ≠ []) : Dom (put r s x).2 (Lc.put r' s' x).2 := by
  obtain ⟨hne', hm⟩ := h.mn hne
  obtain ⟨l, p1, p2⟩ := put_cols r s x hne
  obtain ⟨l', p1', p2'⟩ := put_cols r' s' x hne'
  intro t
  have ht := h t
  rw [← cnt_perm p1, ← cnt_perm p1', cnt_cons, cnt_cons] at ht
  rw [cnt_perm p2, cnt_perm p2', cnt_cons, cnt_cons]
  by_cases hmt : Lc.mn s.2 ≤ t
  · rw [if_pos hmt, if_pos (by omega)] at ht
    by_cases h1 : Lc.mn s.2 + x ≤ t
    · rw [if_pos h1, if_pos (by omega)]; omega
    · rw [if_neg h1]; omega
  · have z : cnt t l = 0 := cnt_zero fun c hc => by
      have := (mn_spec hne).2 c (p1.subset (List.mem_cons_of_mem _ hc))
      omega
    rw [z, if_neg (by omega)]
    omega
def Le2 (a b : List Int) : Prop := a.length = b.length ∧ ∀ p ∈ a.zip b, p.2 ≤ p.1
theorem Le2.snoc {a b : List Int} {x y : Int} (h : Le2 a b) (hxy : y ≤ x) : Le2 (a ++ [x]) (b ++ [y]) := by
  refine ⟨by rw [List.length_append, List.length_append, h.1]; rfl, fun p hp => ?_⟩
  rw [List.zip_append h.1] at hp
  rcases List.mem_append.mp hp with hp | hp
  · exact h.2 p hp
  · have : p = (x, y) := List.mem_singleton.mp hp
    rw [this]; exact hxy
theorem fold_dom (r r' : Bool) : ∀ (hs : List Int) (s s' : List (Nat × Int) × List Int), s.2 ≠ [] → (∀ h ∈ hs, 0 ≤ h) → Dom s.2 s'.2 → Le2 (s.1.map (·.2)) (s'.1.map (·.2)) →
    Le2 ((hs.foldl (put r) s).1.map (·.2)) ((hs.foldl (put r') s').1.map (·.2)) ∧ Dom (hs.foldl (put r) s).2 (hs.foldl (put r') s').2
  | [], s, s', _, _, d, e => ⟨e, d⟩
  | h :: hs, s, s', hne, hp, d, e => by
    refine fold_dom r r' hs (put r s h) (put r' s' h) (put_ne hne) (fun x hx => hp x (List.mem_cons_of_mem _ hx)) (d.put (hp h List.mem_cons_self) hne) ?_
    show Le2 ((s.1 ++ [(low r s.2, mn s.2)]).map (·.2)) ((s'.1 ++ [(low r' s'.2, mn s'.2)]).map (·.2))
    rw [List.map_append, List.map_append]
    exact e.snoc (d.mn hne).2
theorem tops_dom {cs cs' hs : List Int} (hne : cs ≠ []) (hp : ∀ h ∈ hs, 0 ≤ h) (d : Dom cs cs') : ∀ g ∈ grow (tops cs hs) (tops cs' hs), g ≤ 0 := by
  have q := (fold_dom false false hs ([], cs) ([], cs') hne hp d ⟨rfl, fun p hp => by cases hp⟩).1
  intro g hg
  unfold grow at hg
  obtain ⟨p, hpm, rfl⟩ := List.mem_map.mp hg
  have := q.2 p hpm
  omega
theorem dom_more (cs : List Int) (x : Int) : Dom cs (cs ++ [x]) := fun t => by
  unfold cnt
  rw [List.countP_append]
  omega
end Lc

namespace Lc
open PySem PySem.Spec PyProof.Rows L2
/-! walks: for over enumerate, a comprehension over zip of tuples -/
theorem for_enum {K : PySem.W.Frag} {a : Addr} {xs : List V} {g : TG} {tb : TS} {D : Ends} {σ : L2.St} {H : Hp} (Pv : Nat → L2.St → Hp → Prop) (h0 : Pv 0 σ H) (hl : ∀ i σ H, i ≤ xs.length → Pv i σ H → SqL K H a xs)
    (hs : ∀ i x σ H T, xs[i]? = some x → Pv i σ H → H T = none → g (.ref T) σ (upd H T (.tup [.int (i : Nat), x])) fun σ2 H2 => tb { D with nx := Pv (i + 1), ct := Pv (i + 1), bk := D.nx } σ2 H2) (hd : ∀ σ H, Pv xs.length σ H → D.nx σ H) :
    ∃ W : Nat → Nat → L2.St → Hp → Prop, (∃ m, W 0 m σ H) ∧ ∀ i m σ H, W i m σ H →
      ((Ite K a).stop i H ∧ D.nx σ H) ∨ ((Ite K a).go i H ∧ ∃ N : L2.St → Hp → Prop, (∀ σ' H', N σ' H' → ∃ m', m' < m ∧ W (i + 1) m' σ' H') ∧ ∀ x H', (Ite K a).yld i H x H' → g x σ H' fun σ2 H2 => tb { D with nx := N, ct := N, bk := D.nx } σ2 H2) :=
  for_it walk_enum Pv h0 hl (fun i x σ H H' hi p y => by
    obtain ⟨T, u, v, rfl, nT, rfl, e1, e2⟩ := y
    cases e1
    exact hs i v σ H T e2 p nT) hd
theorem walk_zipT {K : PySem.W.Frag} {a b : Addr} {xs ys : List V} {n : Nat} (hn : n = min xs.length ys.length) : Walk (RZ.ItzT K a b) n (fun H => SqT K H a xs ∧ SqT K H b ys) (YPair (fun i => xs[i]?) (fun i => ys[i]?)) := by
  subst hn
  refine ⟨fun i _ hi q => ?_, fun _ q => ⟨xs, ys, q.1, q.2, by omega⟩, fun i H v H' _ q y => ?_⟩
  · have h1 : i < xs.length := by omega
    have h2 : i < ys.length := by omega
    exact ⟨xs, ys, xs[i], ys[i], q.1, q.2, by simp [h1], by simp [h2]⟩
  · obtain ⟨T, x, z, h1, h2, h3, h4, h5⟩ := y
    exact ⟨T, x, z, h1, h2, h3, h4 xs q.1, h5 ys q.2⟩
theorem lc_zipT {K : PySem.W.Frag} {a b D : Addr} {xs ys : List V} {g : TG} {tt : TT} {te : TE} {vs : List Nat} {σ : L2.St} {H0 : Hp} {Qd : Hp → Prop}
    (hle : xs.length = ys.length) (Pv : Nat → Hp → Prop) (h0 : Pv 0 (upd H0 D (.lst []))) (hl : ∀ i H, i ≤ xs.length → Pv i H → SqT K H a xs ∧ SqT K H b ys)
    (hs : ∀ i x y H T, xs[i]? = some x → ys[i]? = some y → Pv i H → H T = none → g (.ref T) (wipe σ vs) (upd H T (.tup [x, y])) fun σ2 H2 =>
      wipe σ2 vs = wipe σ vs ∧ tt σ2 H2 fun b H3 => if b = true then te σ2 H3 fun y H4 => ∃ acc, H4 D = some (.lst acc) ∧ acc.length < sizeLine ∧ Pv (i + 1) (upd H4 D (.lst (acc ++ [y]))) else Pv (i + 1) H3)
    (hd : ∀ H, Pv xs.length H → Qd H) :
    ∃ W : Nat → Nat → Hp → Prop, (∃ m, W 0 m (upd H0 D (.lst []))) ∧ ∀ i m H, W i m H →
      (((RZ.ItzT K a b).stop i H ∧ Qd H) ∨ ((RZ.ItzT K a b).go i H ∧ ∃ Nx : Hp → Prop, (∀ H', Nx H' → ∃ m', m' < m ∧ W (i + 1) m' H') ∧
        ∀ x H', (RZ.ItzT K a b).yld i H x H' → g x (wipe σ vs) H' fun σ2 H2 => wipe σ2 vs = wipe σ vs ∧ tt σ2 H2 fun b H3 =>
          if b = true then te σ2 H3 fun y H4 => ∃ acc, H4 D = some (.lst acc) ∧ acc.length < sizeLine ∧ Nx (upd H4 D (.lst (acc ++ [y]))) else Nx H3)) :=
  lc_it (walk_zipT (n := xs.length) (by omega)) Pv h0 hl (fun i x H H' hi p y => by
    obtain ⟨T, u, v, rfl, nT, rfl, e1, e2⟩ := y
    exact hs i u v H T e1 e2 p nT) hd
/-! sorted lists, their differences place by place -/
def srt (l : List Int) : List Int := l.mergeSort fun a b => decide (a ≤ b)
theorem srt_perm (l : List Int) : (srt l).Perm l := List.mergeSort_perm _ _
theorem srt_sorted (l : List Int) : Sorted (srt l) := by
  have := List.pairwise_mergeSort (le := fun a b : Int => decide (a ≤ b)) (fun a b c h1 h2 => by simp at *; omega) (fun a b => by simp; omega) l
  exact this.imp fun h => by simpa using h
theorem srt_len (l : List Int) : (srt l).length = l.length := (srt_perm l).length_eq
theorem srt_eq {l m : List Int} (p : m.Perm l) (s : Sorted m) : m = srt l := sorted_uniq s (srt_sorted l) (p.trans (srt_perm l).symm)
theorem srt_of_perm {a b : List Int} (p : a.Perm b) : srt a = srt b := srt_eq ((srt_perm a).trans p) (srt_sorted a)
theorem srt_add (l : List Int) (m : Int) : (srt l).map (· + m) = srt (l.map (· + m)) := srt_eq ((srt_perm l).map _) (List.Pairwise.map _ (fun a b h => by show a + m ≤ b + m; omega) (srt_sorted l))
theorem grow_neg : ∀ a b : List Int, grow b a = (grow a b).map fun x => -x
  | [], b => by cases b <;> rfl
  | x :: a, [] => rfl
  | x :: a, y :: b => by
    have ih := grow_neg a b
    unfold grow at ih ⊢
    simp only [List.zip_cons_cons, List.map_cons, ih]
    rw [show x - y = -(y - x) by omega]
theorem grow_add (m : Int) : ∀ a b : List Int, grow a (b.map (· + m)) = (grow a b).map (· + m)
  | [], b => by cases b <;> rfl
  | x :: a, [] => rfl
  | x :: a, y :: b => by
    have ih := grow_add m a b
    unfold grow at ih ⊢
    simp only [List.zip_cons_cons, List.map_cons, ih]
    rw [show y + m - x = y - x + m by omega]
theorem mn_add {l : List Int} (h : l ≠ []) (m : Int) : mn (l.map (· + m)) = mn l + m := by
  have s := mn_spec h
  exact mn_eq (List.mem_map.mpr ⟨_, s.1, rfl⟩) fun y hy => by
    obtain ⟨z, hz, rfl⟩ := List.mem_map.mp hy
    have := s.2 z hz
    show mn l + m ≤ z + m
    omega
theorem mx_add {l : List Int} (h : l ≠ []) (m : Int) : mx (l.map (· + m)) = mx l + m := by
  have s := mx_spec h
  exact mx_eq (List.mem_map.mpr ⟨_, s.1, rfl⟩) fun y hy => by
    obtain ⟨z, hz, rfl⟩ := List.mem_map.mp hy
    have := s.2 z hz
    show z + m ≤ mx l + m
    omega
theorem mn_neg (l : List Int) : mn (l.map fun x => -x) = - mx l := by unfold mx; omega
theorem mx_neg (l : List Int) : mx (l.map fun x => -x) = - mn l := by
  unfold mx
  rw [List.map_map]
  have : ((fun x : Int => -x) ∘ fun x : Int => -x) = id := by funext x; show - -x = x; omega
  rw [this, List.map_id]
def gaps (a b : List Int) : List Int := grow (srt a) (srt b)
def gLo (a b : List Int) : Int := mn (gaps a b)
def gHi (a b : List Int) : Int := mx (gaps a b)
theorem gaps_len {a b : List Int} (h : a.length = b.length) : (gaps a b).length = a.length := by
  unfold gaps
  rw [grow_len (by rw [srt_len, srt_len, h]), srt_len]
theorem gaps_perm {a b a' b' : List Int} (p : a'.Perm a) (q : b'.Perm b) : gaps a' b' = gaps a b := by
  unfold gaps
  rw [srt_of_perm p, srt_of_perm q]
theorem gaps_neg (a b : List Int) : gaps b a = (gaps a b).map fun x => -x := grow_neg _ _
theorem gaps_add (a b : List Int) (m : Int) : gaps a (b.map (· + m)) = (gaps a b).map (· + m) := by
  unfold gaps
  rw [← srt_add, grow_add]
theorem gaps_ne {a b : List Int} (h : a.length = b.length) (ha : a ≠ []) : gaps a b ≠ [] := fun e => ha (List.length_eq_zero_iff.mp (by rw [← gaps_len h, e]; rfl))
theorem gaps_in {a b : List Int} {M : Int} (ha : ∀ x ∈ a, 0 ≤ x ∧ x ≤ M) (hb : ∀ x ∈ b, 0 ≤ x ∧ x ≤ M) : ∀ g ∈ gaps a b, -M ≤ g ∧ g ≤ M := fun g hg => by
  unfold gaps grow at hg
  obtain ⟨p, hp, rfl⟩ := List.mem_map.mp hg
  have z := List.of_mem_zip (show (p.1, p.2) ∈ (srt a).zip (srt b) from hp)
  have h1 := ha _ ((srt_perm a).subset z.1)
  have h2 := hb _ ((srt_perm b).subset z.2)
  omega
end Lc

namespace K56
open PySem PySem.Spec PyProof.Rows L2 Lc
def topS (i : Nat) : Stmt := PySem.Challenge.pw_lowcolumns_k56_gaps_between.main.body.getD i (.Pass ⟨0, 0, 0, 0⟩)
abbrev s_is_integer_within : Stmt := topS 7
abbrev nm_is_integer_within : List Str := ["value", "least", "greatest"]
theorem sc_is_integer_within : FnScope nm_is_integer_within ["value", "least", "greatest"] (defScope s_is_integer_within) :=
  ⟨rfl, rfl, rfl, by decide +kernel, rfl, by decide +kernel, by decide +kernel⟩
abbrev s_is_list_of_integers : Stmt := topS 8
abbrev nm_is_list_of_integers : List Str := ["value", "fewest", "most", "least", "greatest", "item"]
theorem sc_is_list_of_integers : FnScope nm_is_list_of_integers ["value", "fewest", "most", "least", "greatest"] (defScope s_is_list_of_integers) :=
  ⟨rfl, rfl, rfl, by decide +kernel, rfl, by decide +kernel, by decide +kernel⟩
abbrev s_is_start : Stmt := topS 10
abbrev nm_is_start : List Str := ["value"]
theorem sc_is_start : FnScope nm_is_start ["value"] (defScope s_is_start) :=
  ⟨rfl, rfl, rfl, by decide +kernel, rfl, by decide +kernel, by decide +kernel⟩
abbrev s_check_start : Stmt := topS 11
abbrev nm_check_start : List Str := ["start"]
theorem sc_check_start : FnScope nm_check_start ["start"] (defScope s_check_start) :=
  ⟨rfl, rfl, rfl, by decide +kernel, rfl, by decide +kernel, by decide +kernel⟩
abbrev s_growths : Stmt := topS 13
abbrev nm_growths : List Str := ["before", "after", "old", "new"]
theorem sc_growths : FnScope nm_growths ["before", "after"] (defScope s_growths) :=
  ⟨rfl, rfl, rfl, by decide +kernel, rfl, by decide +kernel, by decide +kernel⟩
abbrev s_check_starts : Stmt := topS 15
abbrev nm_check_starts : List Str := ["start", "other"]
theorem sc_check_starts : FnScope nm_check_starts ["start", "other"] (defScope s_check_starts) :=
  ⟨rfl, rfl, rfl, by decide +kernel, rfl, by decide +kernel, by decide +kernel⟩
abbrev s_gap_of : Stmt := topS 16
abbrev nm_gap_of : List Str := ["columns", "others", "differences"]
theorem sc_gap_of : FnScope nm_gap_of ["columns", "others"] (defScope s_gap_of) :=
  ⟨rfl, rfl, rfl, by decide +kernel, rfl, by decide +kernel, by decide +kernel⟩
abbrev s_gap_between : Stmt := topS 17
abbrev nm_gap_between : List Str := ["start", "other"]
theorem sc_gap_between : FnScope nm_gap_between ["start", "other"] (defScope s_gap_between) :=
  ⟨rfl, rfl, rfl, by decide +kernel, rfl, by decide +kernel, by decide +kernel⟩
abbrev s_law_bag : Stmt := topS 19
abbrev nm_law_bag : List Str := ["cell"]
theorem sc_law_bag : FnScope nm_law_bag ["cell"] (defScope s_law_bag) :=
  ⟨rfl, rfl, rfl, by decide +kernel, rfl, by decide +kernel, by decide +kernel⟩
abbrev s_law_draw : Stmt := topS 20
abbrev nm_law_draw : List Str := ["bag", "most", "digit", "mixed"]
theorem sc_law_draw : FnScope nm_law_draw ["bag", "most"] (defScope s_law_draw) :=
  ⟨rfl, rfl, rfl, by decide +kernel, rfl, by decide +kernel, by decide +kernel⟩
abbrev s_law_equal : Stmt := topS 21
abbrev nm_law_equal : List Str := ["found", "due", "one", "two"]
theorem sc_law_equal : FnScope nm_law_equal ["found", "due"] (defScope s_law_equal) :=
  ⟨rfl, rfl, rfl, by decide +kernel, rfl, by decide +kernel, by decide +kernel⟩
abbrev s_law_first : Stmt := topS 22
abbrev nm_law_first : List Str := ["bag", "most", "top", "wide", "many", "column"]
theorem sc_law_first : FnScope nm_law_first ["bag", "most", "top"] (defScope s_law_first) :=
  ⟨rfl, rfl, rfl, by decide +kernel, rfl, by decide +kernel, by decide +kernel⟩
abbrev s_law_gap : Stmt := topS 23
abbrev nm_law_gap : List Str := ["one", "two", "some", "a", "b"]
theorem sc_law_gap : FnScope nm_law_gap ["one", "two"] (defScope s_law_gap) :=
  ⟨rfl, rfl, rfl, by decide +kernel, rfl, by decide +kernel, by decide +kernel⟩
abbrev s_law_mixed : Stmt := topS 24
abbrev nm_law_mixed : List Str := ["bag", "some", "left", "turn"]
theorem sc_law_mixed : FnScope nm_law_mixed ["bag", "some"] (defScope s_law_mixed) :=
  ⟨rfl, rfl, rfl, by decide +kernel, rfl, by decide +kernel, by decide +kernel⟩
abbrev s_law_holds : Stmt := topS 25
abbrev nm_law_holds : List Str := ["bag", "first", "second", "due", "before", "low", "high", "more", "lifted", "one"]
theorem sc_law_holds : FnScope nm_law_holds ["bag", "first", "second"] (defScope s_law_holds) :=
  ⟨rfl, rfl, rfl, by decide +kernel, rfl, by decide +kernel, by decide +kernel⟩
abbrev s_law : Stmt := topS 26
abbrev nm_law : List Str := ["script", "k", "cell", "bag", "is_last", "turn", "top", "first", "second", "third", "other_start", "column"]
theorem sc_law : FnScope nm_law ["script"] (defScope s_law) :=
  ⟨rfl, rfl, rfl, by decide +kernel, rfl, by decide +kernel, by decide +kernel⟩
structure Txt (K : PySem.W.Frag) (mg : Str → Option Value) where
  a_is_integer_within : Addr
  d_is_integer_within : FuncData
  F_is_integer_within : Fun K "is_integer_within" "is_integer_within" s_is_integer_within a_is_integer_within d_is_integer_within
  b_is_integer_within : Binds K d_is_integer_within ["value", "least", "greatest"] []
  g_is_integer_within : mg "is_integer_within" = some (.ref a_is_integer_within)
  a_is_list_of_integers : Addr
  d_is_list_of_integers : FuncData
  F_is_list_of_integers : Fun K "is_list_of_integers" "is_list_of_integers" s_is_list_of_integers a_is_list_of_integers d_is_list_of_integers
  b_is_list_of_integers : Binds K d_is_list_of_integers ["value", "fewest", "most", "least", "greatest"] []
  g_is_list_of_integers : mg "is_list_of_integers" = some (.ref a_is_list_of_integers)
  a_is_start : Addr
  d_is_start : FuncData
  F_is_start : Fun K "is_start" "is_start" s_is_start a_is_start d_is_start
  b_is_start : Binds K d_is_start ["value"] []
  g_is_start : mg "is_start" = some (.ref a_is_start)
  a_check_start : Addr
  d_check_start : FuncData
  F_check_start : Fun K "check_start" "check_start" s_check_start a_check_start d_check_start
  b_check_start : Binds K d_check_start ["start"] []
  g_check_start : mg "check_start" = some (.ref a_check_start)
  a_growths : Addr
  d_growths : FuncData
  F_growths : Fun K "growths" "growths" s_growths a_growths d_growths
  b_growths : Binds K d_growths ["before", "after"] []
  g_growths : mg "growths" = some (.ref a_growths)
  a_check_starts : Addr
  d_check_starts : FuncData
  F_check_starts : Fun K "check_starts" "check_starts" s_check_starts a_check_starts d_check_starts
  b_check_starts : Binds K d_check_starts ["start", "other"] []
  g_check_starts : mg "check_starts" = some (.ref a_check_starts)
  a_gap_of : Addr
  d_gap_of : FuncData
  F_gap_of : Fun K "gap_of" "gap_of" s_gap_of a_gap_of d_gap_of
  b_gap_of : Binds K d_gap_of ["columns", "others"] []
  g_gap_of : mg "gap_of" = some (.ref a_gap_of)
  a_gap_between : Addr
  d_gap_between : FuncData
  F_gap_between : Fun K "gap_between" "gap_between" s_gap_between a_gap_between d_gap_between
  b_gap_between : Binds K d_gap_between ["start", "other"] []
  g_gap_between : mg "gap_between" = some (.ref a_gap_between)
  a_law_bag : Addr
  d_law_bag : FuncData
  F_law_bag : Fun K "_law_bag" "_law_bag" s_law_bag a_law_bag d_law_bag
  b_law_bag : Binds K d_law_bag ["cell"] []
  g_law_bag : mg "_law_bag" = some (.ref a_law_bag)
  a_law_draw : Addr
  d_law_draw : FuncData
  F_law_draw : Fun K "_law_draw" "_law_draw" s_law_draw a_law_draw d_law_draw
  b_law_draw : Binds K d_law_draw ["bag", "most"] []
  g_law_draw : mg "_law_draw" = some (.ref a_law_draw)
  a_law_equal : Addr
  d_law_equal : FuncData
  F_law_equal : Fun K "_law_equal" "_law_equal" s_law_equal a_law_equal d_law_equal
  b_law_equal : Binds K d_law_equal ["found", "due"] []
  g_law_equal : mg "_law_equal" = some (.ref a_law_equal)
  a_law_first : Addr
  d_law_first : FuncData
  F_law_first : Fun K "_law_first" "_law_first" s_law_first a_law_first d_law_first
  b_law_first : Binds K d_law_first ["bag", "most", "top"] []
  g_law_first : mg "_law_first" = some (.ref a_law_first)
  a_law_gap : Addr
  d_law_gap : FuncData
  F_law_gap : Fun K "_law_gap" "_law_gap" s_law_gap a_law_gap d_law_gap
  b_law_gap : Binds K d_law_gap ["one", "two"] []
  g_law_gap : mg "_law_gap" = some (.ref a_law_gap)
  a_law_mixed : Addr
  d_law_mixed : FuncData
  F_law_mixed : Fun K "_law_mixed" "_law_mixed" s_law_mixed a_law_mixed d_law_mixed
  b_law_mixed : Binds K d_law_mixed ["bag", "some"] []
  g_law_mixed : mg "_law_mixed" = some (.ref a_law_mixed)
  a_law_holds : Addr
  d_law_holds : FuncData
  F_law_holds : Fun K "_law_holds" "_law_holds" s_law_holds a_law_holds d_law_holds
  b_law_holds : Binds K d_law_holds ["bag", "first", "second"] []
  g_law_holds : mg "_law_holds" = some (.ref a_law_holds)
  a_law : Addr
  d_law : FuncData
  F_law : Fun K "law" "law" s_law a_law d_law
  b_law : Binds K d_law ["script"] []
  g_law : mg "law" = some (.ref a_law)
  z_isinstance : mg "isinstance" = none
  z_bool : mg "bool" = none
  z_int : mg "int" = none
  z_len : mg "len" = none
  z_type : mg "type" = none
  z_list : mg "list" = none
  z_all : mg "all" = none
  z_zip : mg "zip" = none
  z_sorted : mg "sorted" = none
  z_max : mg "max" = none
  z_min : mg "min" = none
  z_tuple : mg "tuple" = none
  z_str : mg "str" = none
  z_range : mg "range" = none
  z_repr : mg "repr" = none
  z_enumerate : mg "enumerate" = none
  t_MOST_HEIGHT : Tok
  c_MOST_HEIGHT : mg "MOST_HEIGHT" = some (.int (1000000000000000000000000000000) t_MOST_HEIGHT)
  t_MOST_COLUMNS : Tok
  c_MOST_COLUMNS : mg "MOST_COLUMNS" = some (.int (30) t_MOST_COLUMNS)
section
variable {P : Program} {w : World} {K : PySem.W.Frag} {mg : Str → Option Value} {base : Heap}
/-! ### the program -/
def spIW : Sp := fun vs H Q _ => ∃ v lo hi : Int, vs = [.int v, .int lo, .int hi] ∧ Q (.bl (decide (lo ≤ v ∧ v ≤ hi))) H
theorem ok_is_integer_within (T : Txt K mg) : FnOk P w K mg base CX0 1 T.a_is_integer_within T.d_is_integer_within ["value", "least", "greatest"] spIW := by
  refine T.F_is_integer_within.ok sc_is_integer_within (fun vs H Q E h => ?_) (fun cdv A outer s H vs Q E hr h => ?_)
  · obtain ⟨v, lo, hi, rfl, _⟩ := h; rfl
  · obtain ⟨v, lo, hi, rfl, q⟩ := h
    refine ⟨_, (pss_cons (ps_if (PW.pt (pw_or (pt_not (pt_val (pe_callB call_isi (by rfl) T.z_isinstance (by decide +kernel) (pa_cons (pv 0) (pa_cons (pe_bltn (v := .ty "int") (by rfl) T.z_int (by decide +kernel) rfl) pa_nil))))) (pw_or1 (pt_val (pe_callB call_isi (by rfl) T.z_isinstance (by decide +kernel) (pa_cons (pv 0) (pa_cons (pe_bltn (v := .ty "bool") (by rfl) T.z_bool (by decide +kernel) rfl) pa_nil)))))))
  (pss_one (ps_ret pe_bl))
  pss_nil)
  (pss_one (ps_ret (pe_chain op_le op_le (pv 1) (pv 0) (pv 2))))), ?_⟩
    refine ⟨.int v, rfl, .int v, .ty "int", .type "int", .type "int", true, rfl, .ty _, .base (.int v), kit_ty (by decide +kernel), true, rfl, ?_⟩
    refine iteF ⟨.int v, rfl, .int v, .ty "bool", .type "int", .type "bool", false, rfl, .ty _, .base (.int v), kit_ty (by decide +kernel), false, rfl, iteF ?_⟩
    refine ⟨.int lo, rfl, .int v, rfl, lo, v, rfl, rfl, decide (lo ≤ v), rfl, ?_⟩
    by_cases h1 : lo ≤ v
    · rw [decide_eq_true h1]
      refine iteT ⟨.int hi, rfl, v, hi, rfl, rfl, ?_⟩
      have e : decide (v ≤ hi) = decide (lo ≤ v ∧ v ≤ hi) := by simp [h1]
      show Q (.bl (decide (v ≤ hi))) H
      rw [e]
      exact q
    · rw [decide_eq_false h1]
      refine iteF ?_
      rw [show decide (lo ≤ v ∧ v ≤ hi) = false by simp [h1]] at q
      exact q
abbrev big : Int := 1000000000000000000000000000000
def spIL (K : PySem.W.Frag) : Sp := fun vs H Q _ => ∃ (a : Addr) (few most least gr : Int) (ns : List Int), vs = [.ref a, .int few, .int most, .int least, .int gr] ∧ SqL K H a (ns.map V.int) ∧ ns.length ≤ 90000 ∧
  ∀ H', Same H H' → Q (.bl (decide (few ≤ ns.length ∧ (ns.length : Int) ≤ most) && within least gr ns)) H'
theorem ok_is_list_of_integers (T : Txt K mg) : FnOk P w K mg base CX0 2 T.a_is_list_of_integers T.d_is_list_of_integers ["value", "fewest", "most", "least", "greatest"] (spIL K) := by
  refine T.F_is_list_of_integers.ok sc_is_list_of_integers (fun vs H Q E h => ?_) (fun cdv A outer s H vs Q E hr h => ?_)
  · obtain ⟨a, few, most, least, gr, ns, rfl, _⟩ := h; rfl
  · obtain ⟨a, few, most, least, gr, ns, rfl, hS, hlen, q⟩ := h
    refine ⟨_, (pss_cons (ps_if (PW.pt (pw_and (pt_cmpR op_eqTy (pe_callTy call_type_list (by rfl) T.z_type (by decide +kernel) (pa_cons (pv 0) pa_nil)) (pe_bltn (v := .ty "list") (by rfl) T.z_list (by decide +kernel) rfl) (nomark _)) (pw_and1 (pt_chain op_le op_le (pv 1) (pe_callB call_len_seq (by rfl) T.z_len (by decide +kernel) (pa_cons (pv 0) pa_nil)) (pv 2)))))
  (pss_one (ps_ret (pe_callB (cr_all rfl) (by rfl) T.z_all (by decide +kernel) (pa_cons (pe_lc (own := [("item", 5)]) rfl sc_is_list_of_integers.nd (pi_list (pv 0)) (blkOk_by (own := [("item", 5)]) (N := nm_is_list_of_integers) (sc := defScope s_is_list_of_integers) (by decide +kernel)) (fun _ _ _ _ _ => (pg_name (i := 5) sc_is_list_of_integers.nd rfl (.inl rfl))) (fun _ _ _ _ _ => pts_nil) (fun _ _ _ _ _ => (pe_call (ok_is_integer_within T) hr (by rfl) T.g_is_integer_within T.F_is_integer_within.kp T.b_is_integer_within .nil pass0 (pa_cons (pv 5) (pa_cons (pv 3) (pa_cons (pv 4) pa_nil)))))) pa_nil))))
  pss_nil)
  (pss_one (ps_ret pe_bl))), ?_⟩
    refine ⟨.ref a, rfl, ⟨a, _, rfl, hS, rfl, rfl, true, rfl, iteT ?_⟩⟩
    refine ⟨.int few, rfl, .ref a, rfl, a, _, rfl, .inl hS, few, _, rfl, rfl, decide (few ≤ ((ns.map V.int).length : Int)), rfl, ?_⟩
    have eL : (((ns.map V.int).length : Nat) : Int) = (ns.length : Int) := by rw [List.length_map]
    rw [eL]
    have bad : ¬ (few ≤ (ns.length : Int) ∧ (ns.length : Int) ≤ most) → Q (.bl false) H := fun hn => by
      have := q H (Same.refl H)
      rw [decide_eq_false hn] at this
      exact this
    by_cases h1 : few ≤ (ns.length : Int)
    · rw [decide_eq_true h1]
      refine iteT ⟨.int most, rfl, (ns.length : Int), most, rfl, rfl, decide ((ns.length : Int) ≤ most), rfl, ?_⟩
      by_cases h2 : (ns.length : Int) ≤ most
      · rw [decide_eq_true h2]
        refine iteT ⟨.ref a, rfl, a, rfl, ⟨_, hS⟩, fun D nD => ?_⟩
        refine lc_list (K := K) (a := a) (xs := ns.map V.int) (fun i H' => Same H H' ∧ H' D = some (.lst ((ns.take i).map fun n => V.bl (decide (least ≤ n ∧ n ≤ gr)))))
          ⟨same_new _ nD, upd_same⟩ (fun i H' _ p => p.1.seq hS) (fun i x H' e p => ?_) (fun H' p => ?_)
        · obtain ⟨n, en, rfl⟩ := get_map e
          obtain ⟨sm, eD⟩ := p
          refine ⟨rfl, ?_⟩
          refine ⟨.int n, rfl, .int least, rfl, .int gr, rfl, n, least, gr, rfl, _, eD, ?_, same_set sm nD, ?_⟩
          · rw [List.length_map, List.length_take]
            exact small_of (Nat.le_trans (Nat.min_le_right _ _) hlen) (by decide)
          · rw [upd_same, take_map_succ (fun n => V.bl (decide (least ≤ n ∧ n ≤ gr))) en]
        · obtain ⟨sm, eD⟩ := p
          rw [List.length_map, List.take_length] at eD
          refine ⟨D, ns.map (fun n => decide (least ≤ n ∧ n ≤ gr)), rfl, SqL.of (by rw [eD, List.map_map]; rfl), ?_⟩
          have := q H' sm
          rw [decide_eq_true ⟨h1, h2⟩, Bool.true_and] at this
          rw [List.all_map]
          exact this
      · rw [decide_eq_false h2]
        exact iteF (bad fun z => h2 z.2)
    · rw [decide_eq_false h1]
      exact iteF ⟨false, rfl, iteF (bad fun z => h1 z.1)⟩
/-- starts, cards -/
structure IsStart (ns : List Int) : Prop where
  len : 1 ≤ ns.length ∧ ns.length ≤ 30
  all : ∀ n ∈ ns, 0 ≤ n ∧ n ≤ big
structure IsCards (ns : List Int) : Prop where
  len : ns.length ≤ 200
  all : ∀ n ∈ ns, 1 ≤ n ∧ n ≤ big
theorem within_of {lo hi : Int} {ns : List Int} (h : ∀ n ∈ ns, lo ≤ n ∧ n ≤ hi) : within lo hi ns = true := List.all_eq_true.mpr fun n hn => decide_eq_true (h n hn)
def spSt (K : PySem.W.Frag) : Sp := fun vs H Q _ => ∃ (a : Addr) (ns : List Int), vs = [.ref a] ∧ SqL K H a (ns.map V.int) ∧ IsStart ns ∧ ∀ H', Same H H' → Q (.bl true) H'
def spCd (K : PySem.W.Frag) : Sp := fun vs H Q _ => ∃ (a : Addr) (ns : List Int), vs = [.ref a] ∧ SqL K H a (ns.map V.int) ∧ IsCards ns ∧ ∀ H', Same H H' → Q (.bl true) H'
theorem ok_is_start (T : Txt K mg) : FnOk P w K mg base CX0 3 T.a_is_start T.d_is_start ["value"] (spSt K) := by
  refine T.F_is_start.ok sc_is_start (fun vs H Q E h => ?_) (fun cdv A outer s H vs Q E hr h => ?_)
  · obtain ⟨a, ns, rfl, _⟩ := h; rfl
  · obtain ⟨a, ns, rfl, hS, st, q⟩ := h
    refine ⟨_, (pss_one (ps_ret (pe_call (ok_is_list_of_integers T) hr (by rfl) T.g_is_list_of_integers T.F_is_list_of_integers.kp T.b_is_list_of_integers .nil pass0 (pa_cons (pv 0) (pa_cons pe_int (pa_cons (pe_glob (v := .int 30) (by rfl) T.c_MOST_COLUMNS ⟨_, rfl⟩) (pa_cons pe_int (pa_cons (pe_glob (v := .int 1000000000000000000000000000000) (by rfl) T.c_MOST_HEIGHT ⟨_, rfl⟩) pa_nil)))))))), ?_⟩
    refine ⟨.ref a, rfl, a, 1, 30, 0, big, ns, rfl, hS, by have := st.len; omega, fun H' sm => ?_⟩
    have := st.len
    rw [within_of st.all, decide_eq_true (by omega)]
    exact q H' sm
def spCSt (K : PySem.W.Frag) : Sp := fun vs H Q _ => ∃ (a : Addr) (ns : List Int), vs = [.ref a] ∧ SqL K H a (ns.map V.int) ∧ IsStart ns ∧ ∀ H', Same H H' → Q .non H'
def spCCd (K : PySem.W.Frag) : Sp := fun vs H Q _ => ∃ (a : Addr) (ns : List Int), vs = [.ref a] ∧ SqL K H a (ns.map V.int) ∧ IsCards ns ∧ ∀ H', Same H H' → Q .non H'
theorem ok_check_start (T : Txt K mg) : FnOk P w K mg base CX0 4 T.a_check_start T.d_check_start ["start"] (spCSt K) := by
  refine T.F_check_start.ok sc_check_start (fun vs H Q E h => ?_) (fun cdv A outer s H vs Q E hr h => ?_)
  · obtain ⟨a, ns, rfl, _⟩ := h; rfl
  · obtain ⟨a, ns, rfl, hS, st, q⟩ := h
    refine ⟨_, (pss_one (ps_if (pt_not (pt_val (pe_call (ok_is_start T) hr (by rfl) T.g_is_start T.F_is_start.kp T.b_is_start .nil pass0 (pa_cons (pv 0) pa_nil))))
  (pss_one ps_never)
  pss_nil)), ?_⟩
    exact ⟨.ref a, rfl, a, ns, rfl, hS, st, fun H' sm => ⟨true, rfl, iteF (q H' sm)⟩⟩
def spCSC (K : PySem.W.Frag) : Sp := fun vs H Q _ => ∃ (a b : Addr) (xs ns : List Int), vs = [.ref a, .ref b] ∧ SqL K H a (xs.map V.int) ∧ SqL K H b (ns.map V.int) ∧ IsStart xs ∧ IsCards ns ∧ ∀ H', Same H H' → Q .non H'
end

section
variable {P : Program} {w : World} {K : PySem.W.Frag} {mg : Str → Option Value} {base : Heap}
/-- a source of at most n draws so far -/
def Src (H : Hp) (a : Addr) (n : Int) : Prop := ∃ p0 p1 p2 : Int, H a = some (.lst [.int p0, .int p1, .int p2]) ∧ 0 ≤ p0 ∧ 0 ≤ p1 ∧ p1 ≤ 1000000000000000000000000000000000000000000000000000000000000000 ∧ 0 ≤ p2 ∧ p2 ≤ n
theorem Src.mono {H : Hp} {a : Addr} {n m : Int} (h : Src H a n) (l : n ≤ m) : Src H a m := by
  obtain ⟨p0, p1, p2, e, h0, h1, h2, h3, h4⟩ := h
  exact ⟨p0, p1, p2, e, h0, h1, h2, h3, by omega⟩
theorem Src.same {H H' : Hp} {a : Addr} {n : Int} (h : Src H a n) (s : Same H H') : Src H' a n := by
  obtain ⟨p0, p1, p2, e, r⟩ := h
  exact ⟨p0, p1, p2, s _ _ e, r⟩
theorem Src.at {H : Hp} {a : Addr} {n : Int} (h : Src H a n) : ∃ o, H a = some o := by
  obtain ⟨_, _, _, e, _⟩ := h
  exact ⟨_, e⟩
theorem Src.ne {H : Hp} {a p : Addr} {n : Int} (h : Src H a n) (np : H p = none) : p ≠ a := fun z => by
  obtain ⟨o, eo⟩ := h.at
  rw [z] at np; rw [np] at eo; cases eo
theorem Src.upd {H : Hp} {a D : Addr} {o : HO} {n : Int} (h : Src H a n) (ne : a ≠ D) : Src (L2.upd H D o) a n := by
  obtain ⟨p0, p1, p2, e, r⟩ := h
  exact ⟨p0, p1, p2, by rw [upd_ne ne]; exact e, r⟩
theorem big_ab {r : Int} (h : -10 ≤ r) (h1 : r ≤ big) : r.natAbs < 10 ^ 90 := by
  have h' : r ≤ 1000000000000000000000000000000 := h1
  have e : (10 : Nat) ^ 40 = 10000000000000000000000000000000000000000 := by decide +kernel
  have h3 : r.natAbs < 10 ^ 40 := by rw [e]; omega
  exact Nat.lt_of_lt_of_le h3 (Nat.pow_le_pow_right (by decide) (by decide))
theorem le_big {r : Int} (h : r ≤ 1000000000000000000000000000000) : r ≤ big := h
theorem but_set {a D : Addr} {H H' : Hp} {o : HO} (b : But a H H') (n : H D = none) : But a H (L2.upd H' D o) := fun c u nc e => by
  rw [upd_ne (ne_of_none e n)]
  exact b _ _ nc e
theorem But.free {H H' : Hp} {a D : Addr} {n : Int} (b : But a H H') (p : Src H' a n) (nD : H' D = none) : H D = none := by
  cases e : H D with
  | none => rfl
  | some u =>
    have : D ≠ a := p.ne nD
    rw [b _ _ this e] at nD; cases nD
theorem fmod_lt {i j : Int} (h : 0 < j) : 0 ≤ i.fmod j ∧ i.fmod j < j := by
  rw [Int.fmod_eq_emod_of_nonneg i (by omega)]
  exact ⟨Int.emod_nonneg i (by omega), Int.emod_lt_of_pos i h⟩
theorem atI_pick {xs : List V} {r : Int} (h0 : 0 ≤ r) (h1 : r < xs.length) : ∃ v ∈ xs, atI xs r = some v := by
  obtain ⟨k, rfl⟩ := Int.eq_ofNat_of_zero_le h0
  have hk : k < xs.length := by omega
  exact ⟨xs[k], List.getElem_mem hk, atI_nat (List.getElem?_eq_getElem hk)⟩
theorem pick_int {ns : List Int} {r lo hi : Int} (h0 : 0 ≤ r) (h1 : r < ns.length) (hb : ∀ n ∈ ns, lo ≤ n ∧ n ≤ hi) : ∃ m, atI (ns.map V.int) r = some (.int m) ∧ lo ≤ m ∧ m ≤ hi := by
  obtain ⟨v, hv, e⟩ := atI_pick (xs := ns.map V.int) h0 (by rw [List.length_map]; exact h1)
  obtain ⟨m, hm, rfl⟩ := List.mem_map.mp hv
  exact ⟨m, e, hb m hm⟩
theorem e38 : ((10 : Int) ^ (38 : Int).toNat + 133) = 100000000000000000000000000000000000133 := by decide +kernel
theorem e37 : ((10 : Int) ^ (37 : Int).toNat + 43) = 10000000000000000000000000000000000043 := by decide +kernel
theorem e36 : ((10 : Int) ^ (36 : Int).toNat + 67) = 1000000000000000000000000000000000067 := by decide +kernel
def spBag : Sp := fun vs H Q _ => ∃ c : Int, vs = [.int c] ∧ ∀ p H', H p = none → Same H H' → Src H' p 0 → Q (.ref p) H'
theorem ok_law_bag (T : Txt K mg) : FnOk P w K mg base CX0 1 T.a_law_bag T.d_law_bag ["cell"] spBag := by
  refine T.F_law_bag.ok sc_law_bag (fun vs H Q E h => ?_) (fun cdv A outer s H vs Q E hr h => ?_)
  · obtain ⟨c, rfl, _⟩ := h; rfl
  · obtain ⟨c, rfl, q⟩ := h
    refine ⟨_, (pss_one (ps_ret (pe_lst (pa_cons (pe_callB (call_max2 rfl) (by rfl) T.z_max (by decide +kernel) (pa_cons pe_int (pa_cons (pe_op op_sub (pv 0) (pe_op op_powW pe_int pe_int)) pa_nil))) (pa_cons (pe_op op_modN (pv 0) (pe_op op_add (pe_op op_powW pe_int pe_int) pe_int)) (pa_cons pe_int pa_nil)))))), ?_⟩
    have hm := fmod_lt (i := c) (j := 10 ^ (37 : Int).toNat + 43) (by rw [e37]; decide)
    refine ⟨.int c, rfl, 10, 18, rfl, rfl, ⟨by decide, by decide⟩, c, _, rfl, rfl, 0, _, rfl, .int c, rfl, 10, 37, rfl, rfl, ⟨by decide, by decide⟩, _, 43, rfl, rfl, c, _, rfl, rfl, (by show _ ≠ (0 : Int); rw [e37]; decide), (by show 3 ≤ sizeLine; decide), fun p np => ?_⟩
    refine q p _ np (same_new _ np) ⟨_, _, 0, upd_same, ?_, ?_, ?_, by decide, by decide⟩
    · show 0 ≤ (if (c - 10 ^ (18 : Int).toNat) > 0 then (c - 10 ^ (18 : Int).toNat) else (0 : Int))
      split <;> omega
    · exact hm.1
    · have := hm.2
      rw [e37] at this ⊢
      omega
def mix1 (p1 p2 : Int) : Int := ((p1 + 179424673 * (p2 + 1)) ^ (3 : Int).toNat).fmod (10 ^ (38 : Int).toNat + 133)
def mix2 (p1 p2 : Int) : Int := ((mix1 p1 p2 + 32452867 * (p2 + 1)) ^ (5 : Int).toNat).fmod (10 ^ (36 : Int).toNat + 67)
def spDraw : Sp := fun vs H Q _ => ∃ (a : Addr) (m n : Int), vs = [.ref a, .int m] ∧ Src H a n ∧ n ≤ 1000000 ∧ 1 ≤ m ∧ m ≤ 10000000000000000000000000000000 ∧ ∀ r H', But a H H' → Src H' a (n + 1) → 0 ≤ r → r < m → Q (.int r) H'
theorem ok_law_draw (T : Txt K mg) : FnOk P w K mg base CX0 1 T.a_law_draw T.d_law_draw ["bag", "most"] spDraw := by
  refine T.F_law_draw.ok sc_law_draw (fun vs H Q E h => ?_) (fun cdv A outer s H vs Q E hr h => ?_)
  · obtain ⟨a, m, n, rfl, _⟩ := h; rfl
  · obtain ⟨a, m, n, rfl, ⟨p0, p1, p2, e, h0, h1, h2, h3, h4⟩, hn, m1, m2, q⟩ := h
    refine ⟨_, (pss_cons (ps_if (pt_cmpR op_gt (pe_ix ix_list (pv 0) pe_int (fun _ _ => rfl)) pe_int (nomark _))
  (pss_cons (ps_set (i := 2) sc_law_draw.nd rfl (.inl rfl) (pe_op op_modN (pe_ix ix_list (pv 0) pe_int (fun _ _ => rfl)) (pv 1)))
  (pss_cons (ps_asg (pe_op op_fdivW (pe_ix ix_list (pv 0) pe_int (fun _ _ => rfl)) (pv 1)) (pg_sub (pv 0) pe_int set_list))
  (pss_one (ps_ret (pv 2)))))
  pss_nil)
  (pss_cons (ps_asg (pe_op op_add (pe_ix ix_list (pv 0) pe_int (fun _ _ => rfl)) pe_int) (pg_sub (pv 0) pe_int set_list))
  (pss_cons (ps_set (i := 3) sc_law_draw.nd rfl (.inl rfl) (pe_op op_modN (pe_op op_powW (pe_op op_add (pe_ix ix_list (pv 0) pe_int (fun _ _ => rfl)) (pe_op op_mulW pe_int (pe_ix ix_list (pv 0) pe_int (fun _ _ => rfl)))) pe_int) (pe_op op_add (pe_op op_powW pe_int pe_int) pe_int)))
  (pss_cons (ps_set (i := 3) sc_law_draw.nd rfl (.inl rfl) (pe_op op_modN (pe_op op_powW (pe_op op_add (pv 3) (pe_op op_mulW pe_int (pe_ix ix_list (pv 0) pe_int (fun _ _ => rfl)))) pe_int) (pe_op op_add (pe_op op_powW pe_int pe_int) pe_int)))
  (pss_one (ps_ret (pe_op op_modN (pe_op op_fdivW (pv 3) pe_int) (pv 1)))))))), ?_⟩
    refine ⟨.ref a, rfl, a, _, 0, .int p0, rfl, rfl, SqL.of e, rfl, p0, 0, rfl, rfl, _, rfl, ite2 (fun hc => ?_) (fun hc => ?_)⟩
    · -- the cell's own digits
      have hm := fmod_lt (i := p0) (j := m) (by omega)
      refine ⟨.ref a, rfl, a, _, 0, .int p0, rfl, rfl, SqL.of e, rfl, .int m, rfl, p0, m, rfl, rfl, (by show m ≠ 0; omega), ?_⟩
      refine ⟨.ref a, rfl, a, _, 0, .int p0, rfl, rfl, SqL.of e, rfl, .int m, rfl, p0, m, rfl, rfl, fdivW (by omega) (by omega), .ref a, rfl, a, _, 0, 0, rfl, rfl, e, rfl, ?_⟩
      exact ⟨_, rfl, q _ _ (But.upd _ _ _) ⟨p0 / m, p1, p2, upd_same, Int.ediv_nonneg h0 (by omega), h1, h2, h3, by omega⟩ hm.1 hm.2⟩
    · refine ⟨.ref a, rfl, a, _, 2, .int p2, rfl, rfl, SqL.of e, rfl, p2, 1, rfl, rfl, .ref a, rfl, a, _, 2, 2, rfl, rfl, e, rfl, ?_⟩
      have e1 : (L2.upd H a (.lst [.int p0, .int p1, .int (p2 + 1)])) a = some (.lst [.int p0, .int p1, .int (p2 + 1)]) := upd_same
      have ebig : (2 : Nat) ^ 400 = 2582249878086908589655919172003011874329705792829223512830659356540647622016841194629645353280137831435903171972747493376 := by decide +kernel
      refine ⟨.ref a, rfl, a, _, 1, .int p1, rfl, rfl, SqL.of e1, rfl, .ref a, rfl, a, _, 2, .int (p2 + 1), rfl, rfl, SqL.of e1, rfl, 179424673, p2 + 1, rfl, rfl, ?_, p1, 179424673 * (p2 + 1), rfl, rfl, p1 + 179424673 * (p2 + 1), 3, rfl, rfl, ?_, 10, 38, rfl, rfl, ⟨by decide, by decide⟩, _, 133, rfl, rfl, _, _, rfl, rfl, (by show _ ≠ (0 : Int); rw [e38]; decide), ?_⟩
      · exact wide_mul (a := 40) (b := 60) (by decide) (by omega) (by decide) (by decide) (by decide)
      · refine ⟨by decide, ?_⟩
        have := bits_le (x := p1 + 179424673 * (p2 + 1)) (b := 400) (by rw [ebig]; omega) (by decide)
        omega
      · have hs := fmod_lt (i := (p1 + 179424673 * (p2 + 1)) ^ (3 : Int).toNat) (j := 10 ^ (38 : Int).toNat + 133) (by rw [e38]; decide)
        have hs' : 0 ≤ mix1 p1 p2 ∧ mix1 p1 p2 < 10 ^ (38 : Int).toNat + 133 := hs
        rw [e38] at hs'
        refine ⟨.int (mix1 p1 p2), rfl, .ref a, rfl, a, _, 2, .int (p2 + 1), rfl, rfl, SqL.of e1, rfl, 32452867, p2 + 1, rfl, rfl, ?_, mix1 p1 p2, 32452867 * (p2 + 1), rfl, rfl, mix1 p1 p2 + 32452867 * (p2 + 1), 5, rfl, rfl, ?_, 10, 36, rfl, rfl, ⟨by decide, by decide⟩, _, 67, rfl, rfl, _, _, rfl, rfl, (by show _ ≠ (0 : Int); rw [e36]; decide), ?_⟩
        · exact wide_mul (a := 40) (b := 60) (by decide) (by omega) (by decide) (by decide) (by decide)
        · refine ⟨by decide, ?_⟩
          have := bits_le (x := mix1 p1 p2 + 32452867 * (p2 + 1)) (b := 400) (by rw [ebig]; omega) (by decide)
          omega
        · have hm := fmod_lt (i := mix2 p1 p2 / 524287) (j := m) (by omega)
          refine ⟨.int (mix2 p1 p2), rfl, mix2 p1 p2, 524287, rfl, rfl, fdivW (by decide) (by decide), .int m, rfl, _, m, rfl, rfl, (by show m ≠ 0; omega), ?_⟩
          exact q _ _ (But.upd _ _ _) ⟨p0, p1, p2 + 1, e1, h0, h1, h2, by omega, by omega⟩ hm.1 hm.2
end

section
variable {P : Program} {w : World} {K : PySem.W.Frag} {mg : Str → Option Value} {base : Heap}
/-! ### the law's own comparison, of equal data -/
def spSm (R : Hp → V → V → Prop) : Sp := fun vs H Q _ => ∃ x y : V, vs = [x, y] ∧ R H x y ∧ ∀ H', Same H H' → Q (.bl true) H'
def RI : Hp → V → V → Prop := fun _ x y => ∃ i : Int, x = .int i ∧ y = .int i
def RL (R : Hp → V → V → Prop) : Hp → V → V → Prop := fun H x y => ∃ (a b : Addr) (xs ys : List V), x = .ref a ∧ y = .ref b ∧ H a = some (.lst xs) ∧ H b = some (.lst ys) ∧ xs.length = ys.length ∧ xs.length ≤ 1000 ∧
  ∀ (i : Nat) (v u : V), xs[i]? = some v → ys[i]? = some u → R H v u
def RT (R : Hp → V → V → Prop) : Hp → V → V → Prop := fun H x y => ∃ (a b : Addr) (xs ys : List V), x = .ref a ∧ y = .ref b ∧ H a = some (.tup xs) ∧ H b = some (.tup ys) ∧ xs.length = ys.length ∧ xs.length ≤ 1000 ∧
  ∀ (i : Nat) (v u : V), xs[i]? = some v → ys[i]? = some u → R H v u
def Stab (R : Hp → V → V → Prop) : Prop := ∀ H H' x y, R H x y → Same H H' → R H' x y
theorem stab_RI : Stab RI := fun _ _ _ _ h _ => h
theorem stab_RL {R : Hp → V → V → Prop} (h : Stab R) : Stab (RL R) := fun H H' x y ⟨a, b, xs, ys, e1, e2, ha, hb, hl, hz, hr⟩ s =>
  ⟨a, b, xs, ys, e1, e2, s _ _ ha, s _ _ hb, hl, hz, fun i v u h1 h2 => h _ _ _ _ (hr i v u h1 h2) s⟩
theorem stab_RT {R : Hp → V → V → Prop} (h : Stab R) : Stab (RT R) := fun H H' x y ⟨a, b, xs, ys, e1, e2, ha, hb, hl, hz, hr⟩ s =>
  ⟨a, b, xs, ys, e1, e2, s _ _ ha, s _ _ hb, hl, hz, fun i v u h1 h2 => h _ _ _ _ (hr i v u h1 h2) s⟩
theorem rt_pair {H : Hp} {a b : Addr} {x y : Int} (ha : H a = some (.tup [.int x, .int y])) (hb : H b = some (.tup [.int x, .int y])) : RT RI H (.ref a) (.ref b) :=
  ⟨a, b, _, _, rfl, rfl, ha, hb, rfl, by show 2 ≤ 1000; decide, fun i v u h1 h2 => by
    rw [h1] at h2
    cases h2
    have : i < 2 := get_lt h1
    have : i = 0 ∨ i = 1 := by omega
    rcases this with rfl | rfl <;> (cases h1; exact ⟨_, rfl, rfl⟩)⟩
theorem rl_two {R : Hp → V → V → Prop} {H : Hp} {a b : Addr} {x1 x2 y1 y2 : V} (ha : H a = some (.lst [x1, x2])) (hb : H b = some (.lst [y1, y2])) (h1 : R H x1 y1) (h2 : R H x2 y2) : RL R H (.ref a) (.ref b) :=
  ⟨a, b, _, _, rfl, rfl, ha, hb, rfl, by show 2 ≤ 1000; decide, fun i v u e1 e2 => by
    have : i < 2 := get_lt e1
    have : i = 0 ∨ i = 1 := by omega
    rcases this with rfl | rfl <;> (cases e1; cases e2; assumption)⟩
theorem rl_ints {H : Hp} {a b : Addr} {ns : List Int} (ha : H a = some (.lst (ns.map V.int))) (hb : H b = some (.lst (ns.map V.int))) (hl : ns.length ≤ 1000) : RL RI H (.ref a) (.ref b) :=
  ⟨a, b, _, _, rfl, rfl, ha, hb, rfl, by rw [List.length_map]; exact hl, fun i v u h1 h2 => by
    rw [h1] at h2
    cases h2
    obtain ⟨n, _, rfl⟩ := get_map h1
    exact ⟨n, rfl, rfl⟩⟩
theorem no_fn {k : Nat} {f : Addr} {fd : FuncData} {ps : List Str} : FnOk P w K mg base CX0 k f fd ps (fun _ _ _ _ => False) := ⟨fun _ _ _ _ h => h.elim, fun _ _ _ _ _ _ _ _ _ _ _ _ _ h => h.elim⟩
theorem kitFF {t A B : String} (h1 : kitB t A = some false) (h2 : kitB t B = some false) : PySem.W.kitAny K (.type t) [.type A, .type B] = some false :=
  kitAny_cons (kit_ty h1) (fun _ => kitAny_cons (kit_ty h2) (fun _ => rfl) (fun h => by cases h)) (fun h => by cases h)
theorem kitT1 {t A B : String} (h1 : kitB t A = some true) : PySem.W.kitAny K (.type t) [.type A, .type B] = some true :=
  kitAny_cons (kit_ty h1) (fun h => by cases h) (fun _ => rfl)
theorem kitT2 {t A B : String} (h1 : kitB t A = some false) (h2 : kitB t B = some true) : PySem.W.kitAny K (.type t) [.type A, .type B] = some true :=
  kitAny_cons (kit_ty h1) (fun _ => kitAny_cons (kit_ty h2) (fun h => by cases h) (fun _ => rfl)) (fun h => by cases h)
theorem equal_int (T : Txt K mg) : FnOk P w K mg base CX0 1 T.a_law_equal T.d_law_equal ["found", "due"] (spSm RI) := by
  have F_self : FnOk P w K mg base CX0 0 T.a_law_equal T.d_law_equal ["found", "due"] (fun _ _ _ _ => False) := no_fn
  refine T.F_law_equal.ok sc_law_equal (fun vs H Q E h => ?_) (fun cdv A outer s H vs Q E hr h => ?_)
  · obtain ⟨x, y, rfl, _⟩ := h; rfl
  · obtain ⟨x, y, rfl, ⟨i, rfl, rfl⟩, q⟩ := h
    refine ⟨_, (pss_cons (ps_if (pt_val (pe_callB call_isiT (by rfl) T.z_isinstance (by decide +kernel) (pa_cons (pv 1) (pa_cons (pe_tup (pa_cons (pe_bltn (v := .ty "list") (by rfl) T.z_list (by decide +kernel) rfl) (pa_cons (pe_bltn (v := .ty "tuple") (by rfl) T.z_tuple (by decide +kernel) rfl) pa_nil))) pa_nil))))
  (pss_cons (ps_if (PW.pt (pw_or (pt_cmpR op_ne (pe_callB call_isi (by rfl) T.z_isinstance (by decide +kernel) (pa_cons (pv 0) (pa_cons (pe_bltn (v := .ty "list") (by rfl) T.z_list (by decide +kernel) rfl) pa_nil))) (pe_callB call_isi (by rfl) T.z_isinstance (by decide +kernel) (pa_cons (pv 1) (pa_cons (pe_bltn (v := .ty "list") (by rfl) T.z_list (by decide +kernel) rfl) pa_nil))) (nomark _)) (pw_or1 (pt_cmpR op_ne (pe_callB call_isi (by rfl) T.z_isinstance (by decide +kernel) (pa_cons (pv 0) (pa_cons (pe_bltn (v := .ty "tuple") (by rfl) T.z_tuple (by decide +kernel) rfl) pa_nil))) (pe_callB call_isi (by rfl) T.z_isinstance (by decide +kernel) (pa_cons (pv 1) (pa_cons (pe_bltn (v := .ty "tuple") (by rfl) T.z_tuple (by decide +kernel) rfl) pa_nil))) (nomark _)))))
  (pss_one (ps_ret pe_bl))
  pss_nil)
  (pss_one (ps_ret (pe_and (pe_cmpR op_eq (pe_callB call_len_seq (by rfl) T.z_len (by decide +kernel) (pa_cons (pv 0) pa_nil)) (pe_callB call_len_seq (by rfl) T.z_len (by decide +kernel) (pa_cons (pv 1) pa_nil)) (nomark _)) (pe_one (pe_callB (cr_all rfl) (by rfl) T.z_all (by decide +kernel) (pa_cons (pe_lc (own := [("one", 2), ("two", 3)]) (g := (gTup K 2 (gCons (gName 2) (gCons (gName 3) gNil)))) rfl sc_law_equal.nd (RZ.pi_zipA (by rfl) T.z_zip (pa_cons (pv 0) (pa_cons (pv 1) pa_nil))) (blkOk_by (own := [("one", 2), ("two", 3)]) (N := nm_law_equal) (sc := defScope s_law_equal) (by decide +kernel)) (fun _ _ _ _ _ => (pg_tup rfl (pgs_cons (pg_name (i := 2) sc_law_equal.nd rfl (.inl rfl)) (pgs_cons (pg_name (i := 3) sc_law_equal.nd rfl (.inl rfl)) pgs_nil)))) (fun _ _ _ _ _ => pts_nil) (fun _ _ _ _ _ => (pe_call F_self hr (by rfl) T.g_law_equal T.F_law_equal.kp T.b_law_equal .nil pass0 (pa_cons (pv 2) (pa_cons (pv 3) pa_nil))))) pa_nil)))))))
  pss_nil)
  (pss_cons (ps_if (PW.pt (pw_or (pt_cmpR op_isN (pv 1) pe_non (nomark _)) (pw_or1 (pt_val (pe_callB call_isiT (by rfl) T.z_isinstance (by decide +kernel) (pa_cons (pv 1) (pa_cons (pe_tup (pa_cons (pe_bltn (v := .ty "bool") (by rfl) T.z_bool (by decide +kernel) rfl) (pa_cons (pe_bltn (v := .ty "str") (by rfl) T.z_str (by decide +kernel) rfl) pa_nil))) pa_nil)))))))
  (pss_one (ps_ret (pe_and (pe_cmpR op_eq (pv 0) (pv 1) (nomark _)) (pe_one (pe_cmpR op_eq (pe_callB call_isi (by rfl) T.z_isinstance (by decide +kernel) (pa_cons (pv 0) (pa_cons (pe_bltn (v := .ty "bool") (by rfl) T.z_bool (by decide +kernel) rfl) pa_nil))) (pe_callB call_isi (by rfl) T.z_isinstance (by decide +kernel) (pa_cons (pv 1) (pa_cons (pe_bltn (v := .ty "bool") (by rfl) T.z_bool (by decide +kernel) rfl) pa_nil))) (nomark _))))))
  pss_nil)
  (pss_one (ps_ret (pe_and (pe_callB call_isi (by rfl) T.z_isinstance (by decide +kernel) (pa_cons (pv 0) (pa_cons (pe_bltn (v := .ty "int") (by rfl) T.z_int (by decide +kernel) rfl) pa_nil))) (pe_and (pe_not (pe_callB call_isi (by rfl) T.z_isinstance (by decide +kernel) (pa_cons (pv 0) (pa_cons (pe_bltn (v := .ty "bool") (by rfl) T.z_bool (by decide +kernel) rfl) pa_nil)))) (pe_one (pe_cmpR op_eq (pv 0) (pv 1) (nomark _))))))))), ?_⟩
    refine ⟨.int i, rfl, (by show 2 ≤ sizeLine; decide), fun tp ntp => ⟨.int i, tp, [.ty "list", .ty "tuple"], .type "int", [.type "list", .type "tuple"], false, rfl, upd_same, .cons (.ty _) (.cons (.ty _) .nil), .base (.int i), kitFF (by decide +kernel) (by decide +kernel), false, rfl, ?_⟩⟩
    have s1 := same_new (H := H) (p := tp) (.tup [.ty "list", .ty "tuple"]) ntp
    refine ⟨.int i, rfl, rfl, _, rfl, ite_f (by simp) ?_⟩
    refine ⟨.int i, rfl, (by show 2 ≤ sizeLine; decide), fun tp2 ntp2 => ⟨.int i, tp2, [.ty "bool", .ty "str"], .type "int", [.type "bool", .type "str"], false, rfl, upd_same, .cons (.ty _) (.cons (.ty _) .nil), .base (.int i), kitFF (by decide +kernel) (by decide +kernel), false, rfl, ?_⟩⟩
    have s2 := s1.trans (same_new (p := tp2) (.tup [.ty "bool", .ty "str"]) ntp2)
    refine ⟨.int i, rfl, .int i, .ty "int", .type "int", .type "int", true, rfl, .ty _, .base (.int i), kit_ty (by decide +kernel), true, rfl, iteT ?_⟩
    refine ⟨.int i, rfl, .int i, .ty "bool", .type "int", .type "bool", false, rfl, .ty _, .base (.int i), kit_ty (by decide +kernel), false, rfl, _, rfl, iteT ?_⟩
    refine ⟨.int i, rfl, .int i, rfl, rfl, ?_⟩
    show Q (.bl (decide (V.int i = V.int i))) _
    rw [decide_eq_true rfl]
    exact q _ s2
theorem equal_list (T : Txt K mg) {k : Nat} {R : Hp → V → V → Prop} (F_self : FnOk P w K mg base CX0 k T.a_law_equal T.d_law_equal ["found", "due"] (spSm R)) (st : Stab R) :
    FnOk P w K mg base CX0 (k + 1) T.a_law_equal T.d_law_equal ["found", "due"] (spSm (RL R)) := by
  refine T.F_law_equal.ok sc_law_equal (fun vs H Q E h => ?_) (fun cdv A outer s H vs Q E hr h => ?_)
  · obtain ⟨x, y, rfl, _⟩ := h; rfl
  · obtain ⟨x, y, rfl, ⟨a, b, xs, ys, rfl, rfl, ha, hb, hl, hz, hR⟩, q⟩ := h
    refine ⟨_, (pss_cons (ps_if (pt_val (pe_callB call_isiT (by rfl) T.z_isinstance (by decide +kernel) (pa_cons (pv 1) (pa_cons (pe_tup (pa_cons (pe_bltn (v := .ty "list") (by rfl) T.z_list (by decide +kernel) rfl) (pa_cons (pe_bltn (v := .ty "tuple") (by rfl) T.z_tuple (by decide +kernel) rfl) pa_nil))) pa_nil))))
  (pss_cons (ps_if (PW.pt (pw_or (pt_cmpR op_ne (pe_callB call_isi (by rfl) T.z_isinstance (by decide +kernel) (pa_cons (pv 0) (pa_cons (pe_bltn (v := .ty "list") (by rfl) T.z_list (by decide +kernel) rfl) pa_nil))) (pe_callB call_isi (by rfl) T.z_isinstance (by decide +kernel) (pa_cons (pv 1) (pa_cons (pe_bltn (v := .ty "list") (by rfl) T.z_list (by decide +kernel) rfl) pa_nil))) (nomark _)) (pw_or1 (pt_cmpR op_ne (pe_callB call_isi (by rfl) T.z_isinstance (by decide +kernel) (pa_cons (pv 0) (pa_cons (pe_bltn (v := .ty "tuple") (by rfl) T.z_tuple (by decide +kernel) rfl) pa_nil))) (pe_callB call_isi (by rfl) T.z_isinstance (by decide +kernel) (pa_cons (pv 1) (pa_cons (pe_bltn (v := .ty "tuple") (by rfl) T.z_tuple (by decide +kernel) rfl) pa_nil))) (nomark _)))))
  (pss_one (ps_ret pe_bl))
  pss_nil)
  (pss_one (ps_ret (pe_and (pe_cmpR op_eq (pe_callB call_len_seq (by rfl) T.z_len (by decide +kernel) (pa_cons (pv 0) pa_nil)) (pe_callB call_len_seq (by rfl) T.z_len (by decide +kernel) (pa_cons (pv 1) pa_nil)) (nomark _)) (pe_one (pe_callB (cr_all rfl) (by rfl) T.z_all (by decide +kernel) (pa_cons (pe_lc (own := [("one", 2), ("two", 3)]) (g := (gTup K 2 (gCons (gName 2) (gCons (gName 3) gNil)))) rfl sc_law_equal.nd (RZ.pi_zipA (by rfl) T.z_zip (pa_cons (pv 0) (pa_cons (pv 1) pa_nil))) (blkOk_by (own := [("one", 2), ("two", 3)]) (N := nm_law_equal) (sc := defScope s_law_equal) (by decide +kernel)) (fun _ _ _ _ _ => (pg_tup rfl (pgs_cons (pg_name (i := 2) sc_law_equal.nd rfl (.inl rfl)) (pgs_cons (pg_name (i := 3) sc_law_equal.nd rfl (.inl rfl)) pgs_nil)))) (fun _ _ _ _ _ => pts_nil) (fun _ _ _ _ _ => (pe_call F_self hr (by rfl) T.g_law_equal T.F_law_equal.kp T.b_law_equal .nil pass0 (pa_cons (pv 2) (pa_cons (pv 3) pa_nil))))) pa_nil)))))))
  pss_nil)
  (pss_cons (ps_if (PW.pt (pw_or (pt_cmpR op_isN (pv 1) pe_non (nomark _)) (pw_or1 (pt_val (pe_callB call_isiT (by rfl) T.z_isinstance (by decide +kernel) (pa_cons (pv 1) (pa_cons (pe_tup (pa_cons (pe_bltn (v := .ty "bool") (by rfl) T.z_bool (by decide +kernel) rfl) (pa_cons (pe_bltn (v := .ty "str") (by rfl) T.z_str (by decide +kernel) rfl) pa_nil))) pa_nil)))))))
  (pss_one (ps_ret (pe_and (pe_cmpR op_eq (pv 0) (pv 1) (nomark _)) (pe_one (pe_cmpR op_eq (pe_callB call_isi (by rfl) T.z_isinstance (by decide +kernel) (pa_cons (pv 0) (pa_cons (pe_bltn (v := .ty "bool") (by rfl) T.z_bool (by decide +kernel) rfl) pa_nil))) (pe_callB call_isi (by rfl) T.z_isinstance (by decide +kernel) (pa_cons (pv 1) (pa_cons (pe_bltn (v := .ty "bool") (by rfl) T.z_bool (by decide +kernel) rfl) pa_nil))) (nomark _))))))
  pss_nil)
  (pss_one (ps_ret (pe_and (pe_callB call_isi (by rfl) T.z_isinstance (by decide +kernel) (pa_cons (pv 0) (pa_cons (pe_bltn (v := .ty "int") (by rfl) T.z_int (by decide +kernel) rfl) pa_nil))) (pe_and (pe_not (pe_callB call_isi (by rfl) T.z_isinstance (by decide +kernel) (pa_cons (pv 0) (pa_cons (pe_bltn (v := .ty "bool") (by rfl) T.z_bool (by decide +kernel) rfl) pa_nil)))) (pe_one (pe_cmpR op_eq (pv 0) (pv 1) (nomark _))))))))), ?_⟩
    refine ⟨.ref b, rfl, (by show 2 ≤ sizeLine; decide), fun tp ntp => ⟨.ref b, tp, [.ty "list", .ty "tuple"], .type "list", [.type "list", .type "tuple"], true, rfl, upd_same, .cons (.ty _) (.cons (.ty _) .nil), .base (.lst (same_new _ ntp _ _ hb)), kitT1 (by decide +kernel), true, rfl, ?_⟩⟩
    have s2 := same_new (H := H) (p := tp) (.tup [.ty "list", .ty "tuple"]) ntp
    have ha2 := s2 _ _ ha
    have hb2 := s2 _ _ hb
    generalize upd H tp (.tup [.ty "list", .ty "tuple"]) = H2 at s2 ha2 hb2 ⊢
    refine ⟨.ref a, rfl, .ref a, .ty "list", .type "list", .type "list", true, rfl, .ty _, .base (.lst ha2), kit_ty (by decide +kernel), .ref b, rfl, .ref b, .ty "list", .type "list", .type "list", true, rfl, .ty _, .base (.lst hb2), kit_ty (by decide +kernel), rfl, _, rfl, ite_f (by simp) ?_⟩
    refine ⟨.ref a, rfl, .ref a, .ty "tuple", .type "list", .type "tuple", false, rfl, .ty _, .base (.lst ha2), kit_ty (by decide +kernel), .ref b, rfl, .ref b, .ty "tuple", .type "list", .type "tuple", false, rfl, .ty _, .base (.lst hb2), kit_ty (by decide +kernel), rfl, _, rfl, ite_f (by simp) ?_⟩
    refine ⟨.ref a, rfl, a, xs, rfl, .inl (SqL.of ha2), .ref b, rfl, b, ys, rfl, .inl (SqL.of hb2), rfl, _, rfl, ite_t (decide_eq_true (by rw [hl])) ?_⟩
    refine ⟨.ref a, rfl, .ref b, rfl, a, b, xs, ys, rfl, .inl ⟨SqL.of ha2, SqL.of hb2, fun D nD => ?_⟩⟩
    refine lc_zip (K := K) (a := a) (b := b) (xs := xs) (ys := ys) hl (fun i H' => Same H2 H' ∧ H' D = some (.lst ((List.replicate i true).map V.bl))) ⟨same_new _ nD, upd_same⟩ (fun i H' _ h => ⟨SqL.of (h.1 _ _ ha2), SqL.of (h.1 _ _ hb2)⟩) (fun i x y H' Tp ex ey h nT => ?_) (fun H' h => ?_)
    · have sT := same_new (H := H') (p := Tp) (.tup [x, y]) nT
      refine ⟨Tp, [_, _], rfl, SqT.of upd_same, rfl, _, [_], rfl, _, [], rfl, rfl, rfl, ?_⟩
      refine ⟨x, rfl, y, rfl, x, y, rfl, st _ _ _ _ (hR i x y ex ey) (s2.trans (h.1.trans sT)), fun H3 s3 => ?_⟩
      have il := get_lt ex
      refine ⟨_, s3 _ _ (sT _ _ h.2), ?_, same_set (h.1.trans (sT.trans s3)) nD, ?_⟩
      · rw [List.length_map, List.length_replicate]; exact small_of (m := 1000) (by omega) (by decide)
      · rw [upd_same, List.replicate_succ', List.map_append]; rfl
    · refine ⟨D, List.replicate xs.length true, rfl, SqL.of h.2, ?_⟩
      have e : (List.replicate xs.length true).all id = true := List.all_eq_true.mpr fun b hb => by rw [(List.mem_replicate.mp hb).2]; rfl
      show Q (.bl ((List.replicate xs.length true).all id)) H'
      rw [e]
      exact q H' (s2.trans h.1)
theorem equal_tup (T : Txt K mg) {k : Nat} {R : Hp → V → V → Prop} (F_self : FnOk P w K mg base CX0 k T.a_law_equal T.d_law_equal ["found", "due"] (spSm R)) (st : Stab R) :
    FnOk P w K mg base CX0 (k + 1) T.a_law_equal T.d_law_equal ["found", "due"] (spSm (RT R)) := by
  refine T.F_law_equal.ok sc_law_equal (fun vs H Q E h => ?_) (fun cdv A outer s H vs Q E hr h => ?_)
  · obtain ⟨x, y, rfl, _⟩ := h; rfl
  · obtain ⟨x, y, rfl, ⟨a, b, xs, ys, rfl, rfl, ha, hb, hl, hz, hR⟩, q⟩ := h
    refine ⟨_, (pss_cons (ps_if (pt_val (pe_callB call_isiT (by rfl) T.z_isinstance (by decide +kernel) (pa_cons (pv 1) (pa_cons (pe_tup (pa_cons (pe_bltn (v := .ty "list") (by rfl) T.z_list (by decide +kernel) rfl) (pa_cons (pe_bltn (v := .ty "tuple") (by rfl) T.z_tuple (by decide +kernel) rfl) pa_nil))) pa_nil))))
  (pss_cons (ps_if (PW.pt (pw_or (pt_cmpR op_ne (pe_callB call_isi (by rfl) T.z_isinstance (by decide +kernel) (pa_cons (pv 0) (pa_cons (pe_bltn (v := .ty "list") (by rfl) T.z_list (by decide +kernel) rfl) pa_nil))) (pe_callB call_isi (by rfl) T.z_isinstance (by decide +kernel) (pa_cons (pv 1) (pa_cons (pe_bltn (v := .ty "list") (by rfl) T.z_list (by decide +kernel) rfl) pa_nil))) (nomark _)) (pw_or1 (pt_cmpR op_ne (pe_callB call_isi (by rfl) T.z_isinstance (by decide +kernel) (pa_cons (pv 0) (pa_cons (pe_bltn (v := .ty "tuple") (by rfl) T.z_tuple (by decide +kernel) rfl) pa_nil))) (pe_callB call_isi (by rfl) T.z_isinstance (by decide +kernel) (pa_cons (pv 1) (pa_cons (pe_bltn (v := .ty "tuple") (by rfl) T.z_tuple (by decide +kernel) rfl) pa_nil))) (nomark _)))))
  (pss_one (ps_ret pe_bl))
  pss_nil)
  (pss_one (ps_ret (pe_and (pe_cmpR op_eq (pe_callB call_len_seq (by rfl) T.z_len (by decide +kernel) (pa_cons (pv 0) pa_nil)) (pe_callB call_len_seq (by rfl) T.z_len (by decide +kernel) (pa_cons (pv 1) pa_nil)) (nomark _)) (pe_one (pe_callB (cr_all rfl) (by rfl) T.z_all (by decide +kernel) (pa_cons (pe_lc (own := [("one", 2), ("two", 3)]) (g := (gTup K 2 (gCons (gName 2) (gCons (gName 3) gNil)))) rfl sc_law_equal.nd (RZ.pi_zipA (by rfl) T.z_zip (pa_cons (pv 0) (pa_cons (pv 1) pa_nil))) (blkOk_by (own := [("one", 2), ("two", 3)]) (N := nm_law_equal) (sc := defScope s_law_equal) (by decide +kernel)) (fun _ _ _ _ _ => (pg_tup rfl (pgs_cons (pg_name (i := 2) sc_law_equal.nd rfl (.inl rfl)) (pgs_cons (pg_name (i := 3) sc_law_equal.nd rfl (.inl rfl)) pgs_nil)))) (fun _ _ _ _ _ => pts_nil) (fun _ _ _ _ _ => (pe_call F_self hr (by rfl) T.g_law_equal T.F_law_equal.kp T.b_law_equal .nil pass0 (pa_cons (pv 2) (pa_cons (pv 3) pa_nil))))) pa_nil)))))))
  pss_nil)
  (pss_cons (ps_if (PW.pt (pw_or (pt_cmpR op_isN (pv 1) pe_non (nomark _)) (pw_or1 (pt_val (pe_callB call_isiT (by rfl) T.z_isinstance (by decide +kernel) (pa_cons (pv 1) (pa_cons (pe_tup (pa_cons (pe_bltn (v := .ty "bool") (by rfl) T.z_bool (by decide +kernel) rfl) (pa_cons (pe_bltn (v := .ty "str") (by rfl) T.z_str (by decide +kernel) rfl) pa_nil))) pa_nil)))))))
  (pss_one (ps_ret (pe_and (pe_cmpR op_eq (pv 0) (pv 1) (nomark _)) (pe_one (pe_cmpR op_eq (pe_callB call_isi (by rfl) T.z_isinstance (by decide +kernel) (pa_cons (pv 0) (pa_cons (pe_bltn (v := .ty "bool") (by rfl) T.z_bool (by decide +kernel) rfl) pa_nil))) (pe_callB call_isi (by rfl) T.z_isinstance (by decide +kernel) (pa_cons (pv 1) (pa_cons (pe_bltn (v := .ty "bool") (by rfl) T.z_bool (by decide +kernel) rfl) pa_nil))) (nomark _))))))
  pss_nil)
  (pss_one (ps_ret (pe_and (pe_callB call_isi (by rfl) T.z_isinstance (by decide +kernel) (pa_cons (pv 0) (pa_cons (pe_bltn (v := .ty "int") (by rfl) T.z_int (by decide +kernel) rfl) pa_nil))) (pe_and (pe_not (pe_callB call_isi (by rfl) T.z_isinstance (by decide +kernel) (pa_cons (pv 0) (pa_cons (pe_bltn (v := .ty "bool") (by rfl) T.z_bool (by decide +kernel) rfl) pa_nil)))) (pe_one (pe_cmpR op_eq (pv 0) (pv 1) (nomark _))))))))), ?_⟩
    refine ⟨.ref b, rfl, (by show 2 ≤ sizeLine; decide), fun tp ntp => ⟨.ref b, tp, [.ty "list", .ty "tuple"], .type "tuple", [.type "list", .type "tuple"], true, rfl, upd_same, .cons (.ty _) (.cons (.ty _) .nil), .base (.tup (same_new _ ntp _ _ hb)), kitT2 (by decide +kernel) (by decide +kernel), true, rfl, ?_⟩⟩
    have s2 := same_new (H := H) (p := tp) (.tup [.ty "list", .ty "tuple"]) ntp
    have ha2 := s2 _ _ ha
    have hb2 := s2 _ _ hb
    generalize upd H tp (.tup [.ty "list", .ty "tuple"]) = H2 at s2 ha2 hb2 ⊢
    refine ⟨.ref a, rfl, .ref a, .ty "list", .type "tuple", .type "list", false, rfl, .ty _, .base (.tup ha2), kit_ty (by decide +kernel), .ref b, rfl, .ref b, .ty "list", .type "tuple", .type "list", false, rfl, .ty _, .base (.tup hb2), kit_ty (by decide +kernel), rfl, _, rfl, ite_f (by simp) ?_⟩
    refine ⟨.ref a, rfl, .ref a, .ty "tuple", .type "tuple", .type "tuple", true, rfl, .ty _, .base (.tup ha2), kit_ty (by decide +kernel), .ref b, rfl, .ref b, .ty "tuple", .type "tuple", .type "tuple", true, rfl, .ty _, .base (.tup hb2), kit_ty (by decide +kernel), rfl, _, rfl, ite_f (by simp) ?_⟩
    refine ⟨.ref a, rfl, a, xs, rfl, .inr (SqT.of ha2), .ref b, rfl, b, ys, rfl, .inr (SqT.of hb2), rfl, _, rfl, ite_t (decide_eq_true (by rw [hl])) ?_⟩
    refine ⟨.ref a, rfl, .ref b, rfl, a, b, xs, ys, rfl, .inr ⟨SqT.of ha2, SqT.of hb2, fun D nD => ?_⟩⟩
    refine lc_zipT (K := K) (a := a) (b := b) (xs := xs) (ys := ys) hl (fun i H' => Same H2 H' ∧ H' D = some (.lst ((List.replicate i true).map V.bl))) ⟨same_new _ nD, upd_same⟩ (fun i H' _ h => ⟨SqT.of (h.1 _ _ ha2), SqT.of (h.1 _ _ hb2)⟩) (fun i x y H' Tp ex ey h nT => ?_) (fun H' h => ?_)
    · have sT := same_new (H := H') (p := Tp) (.tup [x, y]) nT
      refine ⟨Tp, [_, _], rfl, SqT.of upd_same, rfl, _, [_], rfl, _, [], rfl, rfl, rfl, ?_⟩
      refine ⟨x, rfl, y, rfl, x, y, rfl, st _ _ _ _ (hR i x y ex ey) (s2.trans (h.1.trans sT)), fun H3 s3 => ?_⟩
      have il := get_lt ex
      refine ⟨_, s3 _ _ (sT _ _ h.2), ?_, same_set (h.1.trans (sT.trans s3)) nD, ?_⟩
      · rw [List.length_map, List.length_replicate]; exact small_of (m := 1000) (by omega) (by decide)
      · rw [upd_same, List.replicate_succ', List.map_append]; rfl
    · refine ⟨D, List.replicate xs.length true, rfl, SqL.of h.2, ?_⟩
      have e : (List.replicate xs.length true).all id = true := List.all_eq_true.mpr fun b hb => by rw [(List.mem_replicate.mp hb).2]; rfl
      show Q (.bl ((List.replicate xs.length true).all id)) H'
      rw [e]
      exact q H' (s2.trans h.1)
theorem fn_or {k k' : Nat} {f : Addr} {fd : FuncData} {ps : List Str} {sp1 sp2 : Sp} (F1 : FnOk P w K mg base CX0 k f fd ps sp1) (F2 : FnOk P w K mg base CX0 k' f fd ps sp2) (hk : k' ≤ k) : FnOk P w K mg base CX0 k f fd ps (fun vs H Q E => sp1 vs H Q E ∨ sp2 vs H Q E) :=
  ⟨fun vs H Q E h => h.elim (F1.len vs H Q E) (F2.len vs H Q E), fun A o s H a us vs Q E hr e0 hb r h => by
    rcases h with h | h
    · exact F1.run A o s H a us vs Q E hr e0 hb r h
    · exact F2.run A o s H a us vs Q E (hr.mono hk) e0 hb r h⟩
end

section
variable {P : Program} {w : World} {K : PySem.W.Frag} {mg : Str → Option Value} {base : Heap}
def spGrow (K : PySem.W.Frag) : Sp := fun vs H Q _ => ∃ (a b : Addr) (xs ys : List Int), vs = [.ref a, .ref b] ∧ SqL K H a (xs.map V.int) ∧ SqL K H b (ys.map V.int) ∧ xs.length = ys.length ∧ xs.length ≤ 1000 ∧
  ∀ H' p, Same H H' → H p = none → H' p = some (.lst ((grow xs ys).map V.int)) → Q (.ref p) H'
theorem ok_growths (T : Txt K mg) : FnOk P w K mg base CX0 1 T.a_growths T.d_growths ["before", "after"] (spGrow K) := by
  refine T.F_growths.ok sc_growths (fun vs H Q E h => ?_) (fun cdv A outer s H vs Q E hr h => ?_)
  · obtain ⟨a, b, xs, ys, rfl, _⟩ := h; rfl
  · obtain ⟨a, b, xs, ys, rfl, hA, hB, he, hl, q⟩ := h
    refine ⟨_, (pss_one (ps_ret (pe_lc (own := [("old", 2), ("new", 3)]) (g := (gTup K 2 (gCons (gName 2) (gCons (gName 3) gNil)))) rfl sc_growths.nd (pi_zip (by rfl) T.z_zip (pa_cons (pv 0) (pa_cons (pv 1) pa_nil))) (blkOk_by (own := [("old", 2), ("new", 3)]) (N := nm_growths) (sc := defScope s_growths) (by decide +kernel)) (fun _ _ _ _ _ => (pg_tup rfl (pgs_cons (pg_name (i := 2) sc_growths.nd rfl (.inl rfl)) (pgs_cons (pg_name (i := 3) sc_growths.nd rfl (.inl rfl)) pgs_nil)))) (fun _ _ _ _ _ => pts_nil) (fun _ _ _ _ _ => (pe_op op_sub (pv 3) (pv 2)))))), ?_⟩
    refine ⟨.ref a, rfl, .ref b, rfl, a, b, _, _, rfl, hA, hB, fun D nD => ?_⟩
    refine lc_zip (K := K) (a := a) (b := b) (xs := xs.map V.int) (ys := ys.map V.int) (by rw [List.length_map, List.length_map, he]) (fun i H' => Same H H' ∧ H' D = some (.lst (((grow xs ys).take i).map V.int)))
      ⟨same_new _ nD, upd_same⟩ (fun i H' _ h => ⟨h.1.seq hA, h.1.seq hB⟩) (fun i x y H' T ex ey h nT => ?_) (fun H' h => ?_)
    · obtain ⟨x1, e1, rfl⟩ := get_map ex
      obtain ⟨y1, e2, rfl⟩ := get_map ey
      have sT := same_new (H := H') (p := T) (.tup [.int x1, .int y1]) nT
      refine ⟨T, [_, _], rfl, SqT.of upd_same, rfl, _, [_], rfl, _, [], rfl, rfl, rfl, ?_⟩
      refine ⟨_, rfl, _, rfl, y1, x1, rfl, rfl, _, sT _ _ h.2, ?_, same_set (h.1.trans sT) nD, ?_⟩
      · rw [List.length_map, List.length_take, grow_len he]
        exact small_of (m := 1000) (by omega) (by decide)
      · rw [upd_same]
        exact congrArg (fun z => some (HO.lst z)) (take_map_succ V.int (grow_take e1 e2))
    · have eD := h.2
      rw [List.length_map, ← grow_len he, List.take_length] at eD
      exact q H' D h.1 nD eD
end

section
variable {P : Program} {w : World} {K : PySem.W.Frag} {mg : Str → Option Value} {base : Heap}
/-- a new list of drawn heights so far -/
def PvD (a D : Addr) (H0 : Hp) (n lo hi : Int) (i : Nat) (H' : Hp) : Prop :=
  ∃ bs : List Int, But a H0 H' ∧ Src H' a (n + 10 * i) ∧ H' D = some (.lst (bs.map V.int)) ∧ bs.length = i ∧ ∀ b ∈ bs, lo ≤ b ∧ b ≤ hi
theorem PvD.start {a D : Addr} {H0 : Hp} {n lo hi : Int} (hP : Src H0 a n) (nD : H0 D = none) : PvD a D H0 n lo hi 0 (L2.upd H0 D (.lst [])) :=
  ⟨[], But.of (same_new _ nD), (hP.same (same_new _ nD)).mono (by omega), upd_same, rfl, fun b h => by cases h⟩
theorem PvD.step {a D : Addr} {H0 H' H4 : Hp} {n lo hi y : Int} {i : Nat} (h : PvD a D H0 n lo hi i H') (hP : Src H0 a n) (nD : H0 D = none) (hi' : i ≤ 1000) (b : But a H' H4) (p : Src H4 a (n + 10 * i + 10)) (h1 : lo ≤ y) (h2 : y ≤ hi) :
    ∃ acc, H4 D = some (.lst acc) ∧ acc.length < sizeLine ∧ PvD a D H0 n lo hi (i + 1) (L2.upd H4 D (.lst (acc ++ [.int y]))) := by
  obtain ⟨bs, b0, p0, e, l, al⟩ := h
  have nDa : D ≠ a := hP.ne nD
  refine ⟨_, b _ _ nDa e, ?_, bs ++ [y], but_set (b0.trans b) nD, (p.upd nDa.symm).mono (by omega), ?_, by rw [List.length_append, l]; rfl, fun z hz => ?_⟩
  · rw [List.length_map, l]; exact small_of (m := 1000) hi' (by decide)
  · rw [upd_same, List.map_append]; rfl
  · rcases List.mem_append.mp hz with hz | hz
    · exact al z hz
    · rw [List.mem_singleton.mp hz]; exact ⟨h1, h2⟩
def spFirst : Sp := fun vs H Q _ => ∃ (a : Addr) (n m t : Int), vs = [.ref a, .int m, .int t] ∧ Src H a n ∧ n ≤ 900000 ∧ 1 ≤ m ∧ m ≤ 30 ∧ 0 ≤ t ∧ t ≤ big ∧
  ∀ p H' (bs : List Int), H p = none → But a H H' → Src H' a (n + 400) → H' p = some (.lst (bs.map V.int)) → 1 ≤ bs.length → (bs.length : Int) ≤ m → (∀ b ∈ bs, 0 ≤ b ∧ b ≤ t) → Q (.ref p) H'
theorem ok_law_first (T : Txt K mg) : FnOk P w K mg base CX0 2 T.a_law_first T.d_law_first ["bag", "most", "top"] spFirst := by
  refine T.F_law_first.ok sc_law_first (fun vs H Q E h => ?_) (fun cdv A outer s0 H vs Q E hr h => ?_)
  · obtain ⟨a, n, m, t, rfl, _⟩ := h; rfl
  · obtain ⟨a, n, m, t, rfl, hP, hn, m0, m1, t0, t1, q⟩ := h
    have t1' : t ≤ 1000000000000000000000000000000 := t1
    refine ⟨_, (pss_cons (ps_set (i := 3) sc_law_first.nd rfl (.inr rfl) (pe_ix ix_list (pe_lst (pa_cons pe_int (pa_cons (pe_callB (call_min2 rfl) (by rfl) T.z_min (by decide +kernel) (pa_cons pe_int (pa_cons (pe_op op_add (pv 2) pe_int) pa_nil))) (pa_cons (pe_op op_add (pv 2) pe_int) pa_nil)))) (pe_call (ok_law_draw T) hr (by rfl) T.g_law_draw T.F_law_draw.kp T.b_law_draw .nil pass0 (pa_cons (pv 0) (pa_cons pe_int pa_nil))) (fun _ _ => rfl)))
  (pss_cons (ps_set (i := 4) sc_law_first.nd rfl (.inl rfl) (pe_ix ix_list (pe_lst (pa_cons (pe_op op_add pe_int (pe_call (ok_law_draw T) hr (by rfl) T.g_law_draw T.F_law_draw.kp T.b_law_draw .nil pass0 (pa_cons (pv 0) (pa_cons (pv 1) pa_nil)))) (pa_cons (pv 1) pa_nil))) (pe_callTy call_int1 (by rfl) T.z_int (by decide +kernel) (pa_cons (pe_cmpR op_eq (pe_call (ok_law_draw T) hr (by rfl) T.g_law_draw T.F_law_draw.kp T.b_law_draw .nil pass0 (pa_cons (pv 0) (pa_cons pe_int pa_nil))) pe_int (nomark _)) pa_nil)) (fun _ _ => rfl)))
  (pss_one (ps_ret (pe_lc (own := [("column", 5)]) rfl sc_law_first.nd (pi_range1 (by rfl) T.z_range (pa_cons (pv 4) pa_nil)) (blkOk_by (own := [("column", 5)]) (N := nm_law_first) (sc := defScope s_law_first) (by decide +kernel)) (fun _ _ _ _ _ => (pg_name (i := 5) sc_law_first.nd rfl (.inl rfl))) (fun _ _ _ _ _ => pts_nil) (fun _ _ _ _ _ => (pe_call (ok_law_draw T) hr (by rfl) T.g_law_draw T.F_law_draw.kp T.b_law_draw .nil pass0 (pa_cons (pv 0) (pa_cons (pv 3) pa_nil))))))))), ?_⟩
    -- wide
    refine ⟨.int t, rfl, t, 1, rfl, rfl, 10, _, rfl, .int t, rfl, t, 1, rfl, rfl, (by show 3 ≤ sizeLine; decide), fun o1 n1 => ?_⟩
    have s1 := same_new (H := H) (p := o1) (.lst [.int 1, .int (if t + 1 < 10 then t + 1 else 10), .int (t + 1)]) n1
    refine ⟨.ref a, rfl, a, 3, n, rfl, hP.same s1, by omega, by decide, by decide, fun r1 H2 b2 p2 r10 r11 => ?_⟩
    obtain ⟨wd, ew, w0, w1⟩ := pick_int (ns := [1, if t + 1 < 10 then t + 1 else 10, t + 1]) (lo := 1) (hi := t + 1) r10 r11 (fun z hz => by
      simp only [List.mem_cons, List.not_mem_nil, or_false] at hz
      rcases hz with rfl | rfl | rfl
      · omega
      · split <;> omega
      · omega)
    refine ⟨o1, _, _, .int wd, rfl, rfl, SqL.of (b2 _ _ (hP.ne n1) upd_same), ew, ?_⟩
    have B2 : But a H H2 := (But.of s1).trans b2
    -- many
    refine ⟨.ref a, rfl, .int m, rfl, a, m, _, rfl, p2, by omega, by omega, by omega, fun r2 H3 b3 p3 r20 r21 => ⟨1, r2, rfl, rfl, .int m, rfl, (by show 2 ≤ sizeLine; decide), fun o3 n3 => ?_⟩⟩
    have s3 := same_new (H := H3) (p := o3) (.lst [.int (1 + r2), .int m]) n3
    refine ⟨.ref a, rfl, a, 4, _, rfl, p3.same s3, by omega, by decide, by decide, fun r4 H4 b4 p4 r40 r41 => ⟨rfl, .inr ⟨_, rfl, ?_⟩⟩⟩
    obtain ⟨mm, em, mm0, mm1⟩ := pick_int (ns := [1 + r2, m]) (r := if decide (V.int r4 = V.int 3) = true then 1 else 0) (lo := 1) (hi := m) (by split <;> omega) (by simp only [List.length_cons, List.length_nil]; split <;> omega) (fun z hz => by
      simp only [List.mem_cons, List.not_mem_nil, or_false] at hz
      rcases hz with rfl | rfl <;> omega)
    refine ⟨o3, _, _, .int mm, rfl, rfl, SqL.of (b4 _ _ (p3.ne n3) upd_same), em, ?_⟩
    have B4 : But a H H4 := B2.trans (b3.trans ((But.of s3).trans b4))
    have P4 : Src H4 a (n + 3) := p4.mono (by omega)
    refine ⟨.int mm, rfl, mm, rfl, by omega, by omega, fun D nD => ?_⟩
    refine lc_range (lo := 0) (n := mm.toNat) (PvD a D H4 (n + 3) 0 t) (PvD.start P4 nD) (fun i H' hi h => ⟨rfl, ?_⟩) (fun H' h => ?_)
    · have h' := h
      obtain ⟨bs, b0, p0, e, l, al⟩ := h
      exact ⟨.ref a, rfl, .int wd, rfl, a, wd, _, rfl, p0, by omega, w0, by omega, fun r H4 b p r0 r1 => h'.step P4 nD (by omega) b (p.mono (by omega)) r0 (by omega)⟩
    · obtain ⟨bs, b0, p0, e, l, al⟩ := h
      exact q D H' bs (But.free B4 P4 nD) (B4.trans b0) (p0.mono (by omega)) e (by omega) (by omega) al
end

section
variable {P : Program} {w : World} {K : PySem.W.Frag} {mg : Str → Option Value} {base : Heap}
def spCSS (K : PySem.W.Frag) : Sp := fun vs H Q _ => ∃ (a b : Addr) (xs ys : List Int), vs = [.ref a, .ref b] ∧ SqL K H a (xs.map V.int) ∧ SqL K H b (ys.map V.int) ∧ IsStart xs ∧ IsStart ys ∧ xs.length = ys.length ∧ ∀ H', Same H H' → Q .non H'
theorem ok_check_starts (T : Txt K mg) : FnOk P w K mg base CX0 5 T.a_check_starts T.d_check_starts ["start", "other"] (spCSS K) := by
  refine T.F_check_starts.ok sc_check_starts (fun vs H Q E h => ?_) (fun cdv A outer s H vs Q E hr h => ?_)
  · obtain ⟨a, b, xs, ys, rfl, _⟩ := h; rfl
  · obtain ⟨a, b, xs, ys, rfl, hA, hB, st, st', hl, q⟩ := h
    refine ⟨_, (pss_cons (ps_expr (pe_call (ok_check_start T) hr (by rfl) T.g_check_start T.F_check_start.kp T.b_check_start .nil pass0 (pa_cons (pv 0) pa_nil)))
  (pss_cons (ps_expr (pe_call (ok_check_start T) hr (by rfl) T.g_check_start T.F_check_start.kp T.b_check_start .nil pass0 (pa_cons (pv 1) pa_nil)))
  (pss_one (ps_if (pt_cmpR op_ne (pe_callB call_len_seq (by rfl) T.z_len (by decide +kernel) (pa_cons (pv 0) pa_nil)) (pe_callB call_len_seq (by rfl) T.z_len (by decide +kernel) (pa_cons (pv 1) pa_nil)) (nomark _))
  (pss_one ps_never)
  pss_nil)))), ?_⟩
    refine ⟨.ref a, rfl, a, xs, rfl, hA, st, fun H1 s1 => ⟨.ref b, rfl, b, ys, rfl, s1.seq hB, st', fun H2 s2 => ?_⟩⟩
    have S2 := s1.trans s2
    refine ⟨.ref a, rfl, a, _, rfl, .inl (S2.seq hA), .ref b, rfl, b, _, rfl, .inl (S2.seq hB), rfl, _, rfl, ite_f (by rw [List.length_map, List.length_map, hl]; simp) (q H2 S2)⟩
def spGap (K : PySem.W.Frag) : Sp := fun vs H Q _ => ∃ (a b : Addr) (xs ys : List Int), vs = [.ref a, .ref b] ∧ SqL K H a (xs.map V.int) ∧ SqL K H b (ys.map V.int) ∧ xs.length = ys.length ∧ 1 ≤ xs.length ∧ xs.length ≤ 30 ∧
  ∀ H' p, Same H H' → H p = none → H' p = some (.tup [.int (gLo xs ys), .int (gHi xs ys)]) → Q (.ref p) H'
theorem ok_gap_of (T : Txt K mg) : FnOk P w K mg base CX0 2 T.a_gap_of T.d_gap_of ["columns", "others"] (spGap K) := by
  refine T.F_gap_of.ok sc_gap_of (fun vs H Q E h => ?_) (fun cdv A outer s H vs Q E hr h => ?_)
  · obtain ⟨a, b, xs, ys, rfl, _⟩ := h; rfl
  · obtain ⟨a, b, xs, ys, rfl, hA, hB, hl, l0, l1, q⟩ := h
    refine ⟨_, (pss_cons (ps_set (i := 2) sc_gap_of.nd rfl (.inl rfl) (pe_call (ok_growths T) hr (by rfl) T.g_growths T.F_growths.kp T.b_growths .nil pass0 (pa_cons (pe_callB cr_sortedI (by rfl) T.z_sorted (by decide +kernel) (pa_cons (pv 0) pa_nil)) (pa_cons (pe_callB cr_sortedI (by rfl) T.z_sorted (by decide +kernel) (pa_cons (pv 1) pa_nil)) pa_nil))))
  (pss_one (ps_ret (pe_tup (pa_cons (pe_callB (cr_min rfl) (by rfl) T.z_min (by decide +kernel) (pa_cons (pv 2) pa_nil)) (pa_cons (pe_callB (cr_max rfl) (by rfl) T.z_max (by decide +kernel) (pa_cons (pv 2) pa_nil)) pa_nil)))))), ?_⟩
    refine ⟨.ref a, rfl, a, xs, rfl, hA, fun n1 p1 pm1 so1 np1 => ?_⟩
    have s1 := same_new (H := H) (p := p1) (.lst (n1.map V.int)) np1
    have e1 : (upd H p1 (.lst (n1.map V.int))) p1 = some (.lst (n1.map V.int)) := upd_same
    refine ⟨.ref b, rfl, b, ys, rfl, s1.seq hB, fun n2 p2 pm2 so2 np2 => ?_⟩
    have s2 := same_new (p := p2) (.lst (n2.map V.int)) np2
    have q1 := srt_eq pm1 so1
    have q2 := srt_eq pm2 so2
    subst q1
    subst q2
    refine ⟨p1, p2, srt xs, srt ys, rfl, SqL.of (s2 _ _ e1), SqL.of upd_same, by rw [srt_len, srt_len, hl], by rw [srt_len]; omega, fun H3 p3 s3 np3 ep3 => ?_⟩
    have S3 := (s1.trans s2).trans s3
    have gl : (grow (srt xs) (srt ys)).length = xs.length := gaps_len hl
    refine ⟨.ref p3, rfl, p3, _, rfl, SqL.of ep3, by omega, fun m hm hm2 => ⟨.ref p3, rfl, p3, _, rfl, SqL.of ep3, by omega, fun m' hm' hm2' => ⟨(by show 2 ≤ sizeLine; decide), fun t nt => ?_⟩⟩⟩
    rw [← mn_eq hm hm2, ← mx_eq hm' hm2'] at *
    exact q _ t (S3.trans (same_new _ nt)) (S3.free nt) upd_same
def spGB (K : PySem.W.Frag) : Sp := fun vs H Q _ => ∃ (a b : Addr) (xs ys : List Int), vs = [.ref a, .ref b] ∧ SqL K H a (xs.map V.int) ∧ SqL K H b (ys.map V.int) ∧ IsStart xs ∧ IsStart ys ∧ xs.length = ys.length ∧
  ∀ H' p, Same H H' → H p = none → H' p = some (.tup [.int (gLo xs ys), .int (gHi xs ys)]) → Q (.ref p) H'
theorem ok_gap_between (T : Txt K mg) : FnOk P w K mg base CX0 6 T.a_gap_between T.d_gap_between ["start", "other"] (spGB K) := by
  refine T.F_gap_between.ok sc_gap_between (fun vs H Q E h => ?_) (fun cdv A outer s H vs Q E hr h => ?_)
  · obtain ⟨a, b, xs, ys, rfl, _⟩ := h; rfl
  · obtain ⟨a, b, xs, ys, rfl, hA, hB, st, st', hl, q⟩ := h
    refine ⟨_, (pss_cons (ps_expr (pe_call (ok_check_starts T) hr (by rfl) T.g_check_starts T.F_check_starts.kp T.b_check_starts .nil pass0 (pa_cons (pv 0) (pa_cons (pv 1) pa_nil))))
  (pss_one (ps_ret (pe_call (ok_gap_of T) (hr.mono (by decide)) (by rfl) T.g_gap_of T.F_gap_of.kp T.b_gap_of .nil pass0 (pa_cons (pv 0) (pa_cons (pv 1) pa_nil)))))), ?_⟩
    refine ⟨.ref a, rfl, .ref b, rfl, a, b, xs, ys, rfl, hA, hB, st, st', hl, fun H1 s1 => ?_⟩
    have l1 := st.len
    exact ⟨.ref a, rfl, .ref b, rfl, a, b, xs, ys, rfl, s1.seq hA, s1.seq hB, hl, l1.1, l1.2, fun H2 p s2 np ep => q H2 p (s1.trans s2) (s1.free np) ep⟩
end

section
variable {P : Program} {w : World} {K : PySem.W.Frag} {mg : Str → Option Value} {base : Heap}
/-- what is left and what is taken -/
def PvM (a D l : Addr) (H0 : Hp) (n : Int) (xs : List Int) (i : Nat) (H' : Hp) : Prop :=
  ∃ bs ls : List Int, But a H0 H' ∧ Src H' a (n + i) ∧ H' D = some (.lst (bs.map V.int)) ∧ H' l = some (.lst (ls.map V.int)) ∧ bs.length = i ∧ (bs ++ ls).Perm xs
theorem erase_map : ∀ (ls : List Int) (j : Nat), (ls.map V.int).eraseIdx j = (ls.eraseIdx j).map V.int
  | [], _ => rfl
  | _ :: _, 0 => rfl
  | x :: ls, j + 1 => by
    show V.int x :: (ls.map V.int).eraseIdx j = V.int x :: (ls.eraseIdx j).map V.int
    rw [erase_map ls j]
theorem erase_perm : ∀ (ls : List Int) (j : Nat) (h : j < ls.length), (ls[j] :: ls.eraseIdx j).Perm ls
  | [], _, h => absurd h (by simp)
  | _ :: _, 0, _ => List.Perm.refl _
  | x :: ls, j + 1, h => by
    have h' : j < ls.length := by simpa using h
    show (ls[j] :: x :: ls.eraseIdx j).Perm (x :: ls)
    exact (List.Perm.swap x ls[j] _).trans ((erase_perm ls j h').cons x)
def spMixed (K : PySem.W.Frag) : Sp := fun vs H Q _ => ∃ (a b : Addr) (n : Int) (xs : List Int), vs = [.ref a, .ref b] ∧ Src H a n ∧ n ≤ 900000 ∧ SqL K H b (xs.map V.int) ∧ xs.length ≤ 200 ∧
  ∀ p H' (ys : List Int), H p = none → But a H H' → Src H' a (n + 300) → H' p = some (.lst (ys.map V.int)) → ys.Perm xs → Q (.ref p) H'
theorem ok_law_mixed (T : Txt K mg) : FnOk P w K mg base CX0 2 T.a_law_mixed T.d_law_mixed ["bag", "some"] (spMixed K) := by
  refine T.F_law_mixed.ok sc_law_mixed (fun vs H Q E h => ?_) (fun cdv A outer s0 H vs Q E hr h => ?_)
  · obtain ⟨a, b, n, xs, rfl, _⟩ := h; rfl
  · obtain ⟨a, b, n, xs, rfl, hP, hn, hS, hl, q⟩ := h
    refine ⟨_, (pss_cons (ps_set (i := 2) sc_law_mixed.nd rfl (.inr rfl) (pe_callTy call_list_of (by rfl) T.z_list (by decide +kernel) (pa_cons (pv 1) pa_nil)))
  (pss_one (ps_ret (pe_lc (own := [("turn", 3)]) (te := tBM K "list" rPopAt (tVar 2) (tCons (tCall spDraw [] E0 (tCons (tVar 0) (tCons (tCB (rLenK K) (tCons (tVar 2) tNil)) tNil))) tNil)) rfl sc_law_mixed.nd (pi_range1 (by rfl) T.z_range (pa_cons (pe_callB call_len_seq (by rfl) T.z_len (by decide +kernel) (pa_cons (pv 1) pa_nil)) pa_nil)) (blkOk_by (own := [("turn", 3)]) (N := nm_law_mixed) (sc := defScope s_law_mixed) (by decide +kernel)) (fun _ _ _ _ _ => (pg_name (i := 3) sc_law_mixed.nd rfl (.inl rfl))) (fun _ _ _ _ _ => pts_nil) (fun _ _ _ _ _ => (pe_bm PySem.F.plainAttrs_list PySem.F.slot_list_pop PySem.F.type_list_pop mt_popAt (pv 2) (pa_cons (pe_call (ok_law_draw T) hr (by rfl) T.g_law_draw T.F_law_draw.kp T.b_law_draw .nil pass0 (pa_cons (pv 0) (pa_cons (pe_callB call_len_seq (by rfl) T.z_len (by decide +kernel) (pa_cons (pv 2) pa_nil)) pa_nil))) pa_nil))))))), ?_⟩
    refine ⟨.ref b, rfl, b, _, rfl, .inl hS, fun l nl => ?_⟩
    have s1 := same_new (H := H) (p := l) (.lst (xs.map V.int)) nl
    have e1 : (upd H l (.lst (xs.map V.int))) l = some (.lst (xs.map V.int)) := upd_same
    have P1 : Src (upd H l (.lst (xs.map V.int))) a n := hP.same s1
    have nla : l ≠ a := hP.ne nl
    have hS1 := s1.seq hS
    generalize upd H l (.lst (xs.map V.int)) = H1 at s1 e1 P1 hS1 ⊢
    refine ⟨.ref b, rfl, b, _, rfl, .inl hS1, ((xs.map V.int).length : Int), rfl, by omega, by rw [List.length_map]; omega, fun D nD => ?_⟩
    have nDl : l ≠ D := ne_of_none e1 nD
    have nDa : D ≠ a := P1.ne nD
    have nDH : H D = none := s1.free nD
    have eN : (((xs.map V.int).length : Nat) : Int).toNat = xs.length := by rw [List.length_map]; omega
    refine lc_range (lo := 0) (n := (((xs.map V.int).length : Nat) : Int).toNat) (PvM a D l H n xs) ?_ (fun i H' hi h => ⟨rfl, ?_⟩) (fun H' h => ?_)
    · exact ⟨[], xs, But.of (s1.trans (same_new _ nD)), (P1.same (same_new _ nD)).mono (by omega), upd_same, by rw [upd_ne nDl]; exact e1, rfl, List.Perm.refl _⟩
    · obtain ⟨bs, ls, b0, p0, eD, el, lb, pm⟩ := h
      rw [eN] at hi
      have hlen := pm.length_eq
      rw [List.length_append] at hlen
      have hpos : 0 < ls.length := by omega
      refine ⟨.ref l, rfl, .inl ⟨rfl, _, SqL.of el⟩, .ref a, rfl, .ref l, rfl, l, _, rfl, .inl (SqL.of el), a, ((ls.map V.int).length : Int), _, rfl, p0, by omega, by rw [List.length_map]; omega, by rw [List.length_map]; omega, fun r H4 b4 p4 r0 r1 => ?_⟩
      rw [List.length_map] at r1
      obtain ⟨j, rfl⟩ := Int.eq_ofNat_of_zero_le r0
      have hj : j < ls.length := by omega
      have el4 := b4 _ _ nla el
      have eD4 := b4 _ _ nDa eD
      have sl : seqIndex? (j : Int) (ls.map V.int).length = some j := by
        rw [List.length_map]
        exact (ixN_seq (ixN_nat hj)).1
      have g : (ls.map V.int)[j]? = some (.int ls[j]) := by rw [List.getElem?_map, List.getElem?_eq_getElem hj]; rfl
      refine ⟨l, _, j, j, .int ls[j], rfl, rfl, el4, by omega, by omega, sl, g, ?_⟩
      refine ⟨bs.map V.int, ?_, ?_, bs ++ [ls[j]], ls.eraseIdx j, ?_, ?_, ?_, ?_, ?_, ?_⟩
      · rw [upd_ne nDl.symm]; exact eD4
      · rw [List.length_map, lb]; exact small_of (m := 200) (by omega) (by decide)
      · intro c o nc ec
        have ncD : c ≠ D := ne_of_none ec nDH
        rw [upd_ne ncD]
        have hcl : c ≠ l := ne_of_none ec nl
        rw [upd_ne hcl]; exact b4 _ _ nc (b0 _ _ nc ec)
      · exact ((p4.upd nla.symm).upd nDa.symm).mono (by omega)
      · rw [upd_same, List.map_append]; rfl
      · rw [upd_ne nDl, upd_same, erase_map]
      · rw [List.length_append, lb]; rfl
      · have e : bs ++ [ls[j]] ++ ls.eraseIdx j = bs ++ (ls[j] :: ls.eraseIdx j) := by rw [List.append_assoc]; rfl
        rw [e]
        exact (List.Perm.append_left bs (erase_perm ls j hj)).trans pm
    · obtain ⟨bs, ls, b0, p0, eD, el, lb, pm⟩ := h
      rw [eN] at lb p0
      have hlen := pm.length_eq
      rw [List.length_append] at hlen
      have e0 : ls = [] := List.length_eq_zero_iff.mp (by omega)
      rw [e0, List.append_nil] at pm
      exact q D H' bs nDH b0 (p0.mono (by omega)) eD pm
end

section
variable {P : Program} {w : World} {K : PySem.W.Frag} {mg : Str → Option Value} {base : Heap}
/-- a list of lists of ints, as data -/
abbrev dl (ns : List Int) : PyData := .list (ns.map PyData.int)
theorem dpl {H : Hp} {a : Addr} {ns : List Int} (h : SqL K H a (ns.map V.int)) : Dp K H (.ref a) (dl ns) := .lst h (dpInts ns)
theorem start_ok {cs : List Int} (h : IsStart cs) : Nc 1 300 (dl cs) := nc_ints (fun n hn => big_ab (by have := h.all n hn; omega) (h.all n hn).2) (by have := h.len; omega)
theorem cards_ok {hs : List Int} (h : IsCards hs) : Nc 1 300 (dl hs) := nc_ints (fun n hn => big_ab (by have := h.all n hn; omega) (h.all n hn).2) (by have := h.len; omega)
theorem IsStart.ne {cs : List Int} (h : IsStart cs) : cs ≠ [] := fun e => by have := h.len; rw [e] at this; simp at this
theorem tops_ok {cs hs : List Int} (h : IsStart cs) (h2 : IsCards hs) : Nc 1 300 (dl (tops cs hs)) :=
  nc_ints (play_high h.ne h.all h2.all h2.len).2 (by rw [tops_len]; have := h2.len; omega)
theorem IsStart.perm {cs os : List Int} (h : IsStart cs) (p : os.Perm cs) : IsStart os := ⟨by rw [p.length_eq]; exact h.len, fun n hn => h.all n (p.subset hn)⟩
theorem nice2 {d e : PyData} (h1 : Nc 1 300 d) (h2 : Nc 1 300 e) : Nc 2 602 (.list [d, e]) := by
  have q := nc_list (k := 1) (N := 300) (ds := [d, e]) fun x hx => by
    simp only [List.mem_cons, List.not_mem_nil, or_false] at hx
    rcases hx with rfl | rfl
    · exact h1
    · exact h2
  exact q
theorem nice3 {d e f : PyData} (h1 : Nc 1 300 d) (h2 : Nc 1 300 e) (h3 : Nc 1 300 f) : Nc 2 903 (.list [d, e, f]) := by
  have q := nc_list (k := 1) (N := 300) (ds := [d, e, f]) fun x hx => by
    simp only [List.mem_cons, List.not_mem_nil, or_false] at hx
    rcases hx with rfl | rfl | rfl
    · exact h1
    · exact h2
    · exact h3
  exact q
theorem not_ne {x : V} : ¬ ((!decide (x = x)) = true) := by simp
theorem not_neD {d : PyData} (h : SeqAt.shaped d = true) : ¬ ((!PyData.eqv d d) = true) := by
  rw [SeqAt.eqv_refl d (SeqAt.canLay_of_shaped h)]
  simp
theorem shp {k N : Nat} {d : PyData} (h : Nc k N d) (h1 : k ≤ 40 := by decide) : SeqAt.shaped d = true := h.shaped h1
end

section
variable {P : Program} {w : World} {K : PySem.W.Frag} {mg : Str → Option Value} {base : Heap}
def spLGap (K : PySem.W.Frag) : Sp := fun vs H Q _ => ∃ (a b : Addr) (xs ys : List Int), vs = [.ref a, .ref b] ∧ SqL K H a (xs.map V.int) ∧ SqL K H b (ys.map V.int) ∧ xs.length = ys.length ∧ 1 ≤ xs.length ∧ xs.length ≤ 30 ∧
  ∀ H' p, Same H H' → H p = none → H' p = some (.tup [.int (gLo xs ys), .int (gHi xs ys)]) → Q (.ref p) H'
theorem ok_law_gap (T : Txt K mg) : FnOk P w K mg base CX0 1 T.a_law_gap T.d_law_gap ["one", "two"] (spLGap K) := by
  refine T.F_law_gap.ok sc_law_gap (fun vs H Q E h => ?_) (fun cdv A outer s H vs Q E hr h => ?_)
  · obtain ⟨a, b, xs, ys, rfl, _⟩ := h; rfl
  · obtain ⟨a, b, xs, ys, rfl, hA, hB, hl, l0, l1, q⟩ := h
    refine ⟨_, (pss_cons (ps_setLc (i := 2) (own := [("a", 3), ("b", 4)]) (g := (gTup K 2 (gCons (gName 3) (gCons (gName 4) gNil)))) rfl sc_law_gap.nd rfl rfl (sw_true rfl rfl rfl (by decide +kernel)) (pi_zip (by rfl) T.z_zip (pa_cons (pe_callB cr_sortedI (by rfl) T.z_sorted (by decide +kernel) (pa_cons (pv 0) pa_nil)) (pa_cons (pe_callB cr_sortedI (by rfl) T.z_sorted (by decide +kernel) (pa_cons (pv 1) pa_nil)) pa_nil))) (blkOk_by (own := [("a", 3), ("b", 4)]) (N := nm_law_gap) (sc := defScope s_law_gap) (by decide +kernel)) (fun _ _ _ _ _ => (pg_tup rfl (pgs_cons (pg_name (i := 3) sc_law_gap.nd rfl (.inl rfl)) (pgs_cons (pg_name (i := 4) sc_law_gap.nd rfl (.inl rfl)) pgs_nil)))) (fun _ _ _ _ _ => pts_nil) (fun _ _ _ _ _ => (pe_op op_sub (pv 4) (pv 3))))
  (pss_one (ps_ret (pe_tup (pa_cons (pe_callB (cr_min rfl) (by rfl) T.z_min (by decide +kernel) (pa_cons (pv 2) pa_nil)) (pa_cons (pe_callB (cr_max rfl) (by rfl) T.z_max (by decide +kernel) (pa_cons (pv 2) pa_nil)) pa_nil)))))), ?_⟩
    refine ⟨.ref a, rfl, a, xs, rfl, hA, fun n1 p1 pm1 so1 np1 => ?_⟩
    have s1 := same_new (H := H) (p := p1) (.lst (n1.map V.int)) np1
    have e1 : (upd H p1 (.lst (n1.map V.int))) p1 = some (.lst (n1.map V.int)) := upd_same
    refine ⟨.ref b, rfl, b, ys, rfl, s1.seq hB, fun n2 p2 pm2 so2 np2 => ?_⟩
    have s2 := same_new (p := p2) (.lst (n2.map V.int)) np2
    have q1 := srt_eq pm1 so1
    have q2 := srt_eq pm2 so2
    subst q1
    subst q2
    have e12 := s2 _ _ e1
    have e22 : (upd (upd H p1 (.lst ((srt xs).map V.int))) p2 (.lst ((srt ys).map V.int))) p2 = some (.lst ((srt ys).map V.int)) := upd_same
    have S2 := s1.trans s2
    generalize upd (upd H p1 _) p2 _ = H2 at e12 e22 S2 ⊢
    have he : (srt xs).length = (srt ys).length := by rw [srt_len, srt_len, hl]
    have gl : (grow (srt xs) (srt ys)).length = xs.length := gaps_len hl
    refine ⟨p1, p2, _, _, rfl, SqL.of e12, SqL.of e22, fun D nD => ?_⟩
    refine lc_zip (K := K) (a := p1) (b := p2) (xs := (srt xs).map V.int) (ys := (srt ys).map V.int) (by rw [List.length_map, List.length_map, he]) (fun i H' => Same H2 H' ∧ H' D = some (.lst (((grow (srt xs) (srt ys)).take i).map V.int)))
      ⟨same_new _ nD, upd_same⟩ (fun i H' _ h => ⟨SqL.of (h.1 _ _ e12), SqL.of (h.1 _ _ e22)⟩) (fun i x y H' T ex ey h nT => ?_) (fun H' h => ?_)
    · obtain ⟨x1, e1, rfl⟩ := get_map ex
      obtain ⟨y1, e2, rfl⟩ := get_map ey
      have sT := same_new (H := H') (p := T) (.tup [.int x1, .int y1]) nT
      refine ⟨T, [_, _], rfl, SqT.of upd_same, rfl, _, [_], rfl, _, [], rfl, rfl, rfl, ?_⟩
      refine ⟨_, rfl, _, rfl, y1, x1, rfl, rfl, _, sT _ _ h.2, ?_, same_set (h.1.trans sT) nD, ?_⟩
      · rw [List.length_map, List.length_take, gl]
        exact small_of (m := 1000) (by omega) (by decide)
      · rw [upd_same]
        exact congrArg (fun z => some (HO.lst z)) (take_map_succ V.int (grow_take e1 e2))
    · have eD := h.2
      rw [List.length_map, ← grow_len he, List.take_length] at eD
      have S3 := S2.trans h.1
      refine ⟨.ref D, rfl, D, _, rfl, SqL.of eD, by omega, fun m hm hm2 => ⟨.ref D, rfl, D, _, rfl, SqL.of eD, by omega, fun m' hm' hm2' => ⟨(by show 2 ≤ sizeLine; decide), fun t nt => ?_⟩⟩⟩
      rw [← mn_eq hm hm2, ← mx_eq hm' hm2'] at *
      exact q _ t (S3.trans (same_new _ nt)) (S3.free nt) upd_same
end

section
variable {P : Program} {w : World} {K : PySem.W.Frag} {mg : Str → Option Value} {base : Heap}
theorem kb_gap_between_0_other_start (T : Txt K mg) : KBinds K T.d_gap_between ["start", "other"] ["other", "start"] (fun us ws => match us, ws with | [], [w0, w1] => [w1, w0] | _, _ => []) (fun us ws => match us, ws with | [], [w0, w1] => [w1, w0] | _, _ => []) := by
  obtain ⟨oc, od, kV, doc, pm, an, cdv, ct, osl, e, lk, hcd⟩ := T.F_gap_between.ex
  refine ⟨fun s us ws X hl => ?_, fun {vs us zs ws} r rz => ?_⟩
  · rcases us with _ | ⟨u0, us⟩ <;> rcases ws with _ | ⟨w0, _ | ⟨w1, _ | ⟨w2, ws⟩⟩⟩ <;> first | exact absurd (show (0 : Nat) = 2 from hl) (by decide) | (rw [e]; exact .of_eq rfl)
  · cases r with
    | cons _ _ => exact .nil
    | nil =>
      cases rz with
      | nil => exact .nil
      | cons b2 rzx =>
        cases rzx with
        | nil => exact .nil
        | cons b1 rzxx =>
          cases rzxx with
          | cons _ _ => exact .nil
          | nil =>
            exact (.cons b1 (.cons b2 .nil))
theorem ok_equal_pair (T : Txt K mg) : FnOk P w K mg base CX0 2 T.a_law_equal T.d_law_equal ["found", "due"] (spSm (RT RI)) := equal_tup T (equal_int T) stab_RI
theorem ok_equal_pairs (T : Txt K mg) : FnOk P w K mg base CX0 3 T.a_law_equal T.d_law_equal ["found", "due"] (spSm (RL (RT RI))) := equal_list T (ok_equal_pair T) (stab_RT stab_RI)
/-- both kinds of data that the law compares -/
theorem ok_law_equal (T : Txt K mg) : FnOk P w K mg base CX0 3 T.a_law_equal T.d_law_equal ["found", "due"] (fun vs H Q E => spSm (RL (RT RI)) vs H Q E ∨ spSm (RT RI) vs H Q E) := fn_or (ok_equal_pairs T) (ok_equal_pair T) (by decide)
def spHolds (K : PySem.W.Frag) : Sp := fun vs H Q _ => ∃ (a b c : Addr) (n : Int) (xs ys : List Int), vs = [.ref a, .ref b, .ref c] ∧ Src H a n ∧ n ≤ 800000 ∧ H b = some (.lst (xs.map V.int)) ∧ H c = some (.lst (ys.map V.int)) ∧ b ≠ a ∧ c ≠ a ∧ IsStart xs ∧ IsStart ys ∧ xs.length = ys.length ∧
  ∀ H', But a H H' → Src H' a (n + 700) → Q (.bl true) H'
set_option maxHeartbeats 4000000 in
theorem ok_law_holds (T : Txt K mg) : FnG P w K mg base CX0 7 T.a_law_holds T.d_law_holds ["bag", "first", "second"] (spHolds K) := by
  refine funG0 T.F_law_holds sc_law_holds (fun vs H Q E h => ?_) (fun cdv A outer s H vs Q E hgu hr h => ?_)
  · obtain ⟨a, b, c, n, xs, ys, rfl, _⟩ := h; rfl
  · obtain ⟨a, b, c, n, xs, ys, rfl, hP, hn, eb, ec, nba, nca, st, st', hl, q⟩ := h
    have nb := (nice2 (start_ok st) (start_ok st')).nice (by decide) (by decide)
    have l1 := st.len
    have gne : gaps xs ys ≠ [] := gaps_ne hl st.ne
    have eb30 : ((10 : Int) ^ (30 : Int).toNat) = 1000000000000000000000000000000 := by decide +kernel
    refine ⟨_, (pss_cons (ps_par (i := 3) (j := 4) rfl sc_law_holds.nd rfl rfl (by decide) rfl rfl (pa_cons (pe_call (ok_law_gap T) (hr.mono (by decide)) (by rfl) T.g_law_gap T.F_law_gap.kp T.b_law_gap .nil pass0 (pa_cons (pv 1) (pa_cons (pv 2) pa_nil))) (pa_cons (pe_callB (call_repr_D hgu hr.units) (by rfl) T.z_repr (by decide +kernel) (pa_cons (pe_lst (pa_cons (pv 1) (pa_cons (pv 2) pa_nil))) pa_nil)) pa_nil)) (by rfl))
  (pss_cons (ps_if (pt_not (pt_val (pe_call (ok_law_equal T) (hr.mono (by decide)) (by rfl) T.g_law_equal T.F_law_equal.kp T.b_law_equal .nil pass0 (pa_cons (pe_lst (pa_cons (pe_call (ok_gap_between T) hr (by rfl) T.g_gap_between T.F_gap_between.kp T.b_gap_between .nil pass0 (pa_cons (pv 1) (pa_cons (pv 2) pa_nil))) (pa_cons (pe_callK0 (ok_gap_between T) hr (by rfl) T.g_gap_between T.F_gap_between.kp (kb_gap_between_0_other_start T) pass0 (pk_cons (pv 2) (pk_cons (pv 1) pk_nil))) pa_nil))) (pa_cons (pe_lst (pa_cons (pv 3) (pa_cons (pv 3) pa_nil))) pa_nil)))))
  (pss_one (ps_ret pe_bl))
  pss_nil)
  (pss_cons (ps_if (pt_not (pt_val (pe_call (ok_law_equal T) (hr.mono (by decide)) (by rfl) T.g_law_equal T.F_law_equal.kp T.b_law_equal .nil pass0 (pa_cons (pe_call (ok_gap_between T) hr (by rfl) T.g_gap_between T.F_gap_between.kp T.b_gap_between .nil pass0 (pa_cons (pe_call (ok_law_mixed T) (hr.mono (by decide)) (by rfl) T.g_law_mixed T.F_law_mixed.kp T.b_law_mixed .nil pass0 (pa_cons (pv 0) (pa_cons (pv 1) pa_nil))) (pa_cons (pe_call (ok_law_mixed T) (hr.mono (by decide)) (by rfl) T.g_law_mixed T.F_law_mixed.kp T.b_law_mixed .nil pass0 (pa_cons (pv 0) (pa_cons (pv 2) pa_nil))) pa_nil))) (pa_cons (pv 3) pa_nil)))))
  (pss_one (ps_ret pe_bl))
  pss_nil)
  (pss_cons (ps_asg (pv 3) (pg_tup rfl (pgs_cons (pg_name (i := 5) sc_law_holds.nd rfl (.inl rfl)) (pgs_cons (pg_name (i := 6) sc_law_holds.nd rfl (.inl rfl)) pgs_nil))))
  (pss_cons (ps_if (PW.pt (pw_or (pt_not (pt_val (pe_call (ok_law_equal T) (hr.mono (by decide)) (by rfl) T.g_law_equal T.F_law_equal.kp T.b_law_equal .nil pass0 (pa_cons (pe_call (ok_gap_between T) hr (by rfl) T.g_gap_between T.F_gap_between.kp T.b_gap_between .nil pass0 (pa_cons (pv 2) (pa_cons (pv 1) pa_nil))) (pa_cons (pe_tup (pa_cons (pe_op op_sub pe_int (pv 6)) (pa_cons (pe_op op_sub pe_int (pv 5)) pa_nil))) pa_nil))))) (pw_or1 (pt_cmpR op_ne (pe_callB (call_repr_D hgu hr.units) (by rfl) T.z_repr (by decide +kernel) (pa_cons (pe_lst (pa_cons (pv 1) (pa_cons (pv 2) pa_nil))) pa_nil)) (pv 4) (nomark _)))))
  (pss_one (ps_ret pe_bl))
  pss_nil)
  (pss_cons (ps_set (i := 7) sc_law_holds.nd rfl (.inr rfl) (pe_callB (call_min2 rfl) (by rfl) T.z_min (by decide +kernel) (pa_cons (pe_call (ok_law_draw T) (hr.mono (by decide)) (by rfl) T.g_law_draw T.F_law_draw.kp T.b_law_draw .nil pass0 (pa_cons (pv 0) (pa_cons (pe_op op_powW pe_int pe_int) pa_nil))) (pa_cons (pe_op op_sub (pe_op op_powW pe_int pe_int) (pe_callB (cr_max rfl) (by rfl) T.z_max (by decide +kernel) (pa_cons (pv 2) pa_nil))) pa_nil))))
  (pss_cons (ps_setLc (i := 8) (own := [("one", 9)]) rfl sc_law_holds.nd rfl rfl (sw_true rfl rfl rfl (by decide +kernel)) (pi_list (pv 2)) (blkOk_by (own := [("one", 9)]) (N := nm_law_holds) (sc := defScope s_law_holds) (by decide +kernel)) (fun _ _ _ _ _ => (pg_name (i := 9) sc_law_holds.nd rfl (.inl rfl))) (fun _ _ _ _ _ => pts_nil) (fun _ _ _ _ _ => (pe_op op_add (pv 9) (pv 7))))
  (pss_one (ps_ret (pe_call (ok_law_equal T) (hr.mono (by decide)) (by rfl) T.g_law_equal T.F_law_equal.kp T.b_law_equal .nil pass0 (pa_cons (pe_call (ok_gap_between T) hr (by rfl) T.g_gap_between T.F_gap_between.kp T.b_gap_between .nil pass0 (pa_cons (pv 1) (pa_cons (pv 8) pa_nil))) (pa_cons (pe_tup (pa_cons (pe_op op_add (pv 5) (pv 7)) (pa_cons (pe_op op_add (pv 6) (pv 7)) pa_nil))) pa_nil)))))))))))), ?_⟩
    -- due, before
    refine ⟨.ref b, rfl, .ref c, rfl, b, c, xs, ys, rfl, SqL.of eb, SqL.of ec, hl, l1.1, l1.2, fun H1 du s1 ndu edu => ?_⟩
    have eb1 := s1 _ _ eb
    have ec1 := s1 _ _ ec
    refine ⟨.ref b, rfl, .ref c, rfl, (by show 2 ≤ sizeLine; decide), fun L nL => ⟨L, .list [dl xs, dl ys], rfl, .lst (SqL.of upd_same) (.cons (dpl (SqL.of (same_new _ nL _ _ eb1))) (.cons (dpl (SqL.of (same_new _ nL _ _ ec1))) .nil)), nb, _, _, rfl, ?_⟩⟩
    have s2 := same_new (H := H1) (p := L) (.lst [.ref b, .ref c]) nL
    have S2 := s1.trans s2
    have edu2 := s2 _ _ edu
    generalize upd H1 L _ = H2 at s2 S2 edu2 ⊢
    -- the first question
    refine ⟨.ref b, rfl, .ref c, rfl, b, c, xs, ys, rfl, SqL.of (S2 _ _ eb), SqL.of (S2 _ _ ec), st, st', hl, fun H3 p1 s3 np1 ep1 => ?_⟩
    have S3 := S2.trans s3
    refine ⟨.ref c, rfl, .ref b, rfl, b, c, xs, ys, rfl, SqL.of (S3 _ _ eb), SqL.of (S3 _ _ ec), st, st', hl, fun H4 p2 s4 np2 ep2 => ⟨(by show 2 ≤ sizeLine; decide), fun L1 nL1 => ?_⟩⟩
    have s5 := same_new (H := H4) (p := L1) (.lst [.ref p1, .ref p2]) nL1
    refine ⟨.ref du, rfl, .ref du, rfl, (by show 2 ≤ sizeLine; decide), fun L2 nL2 => ?_⟩
    have s6 := same_new (p := L2) (.lst [.ref du, .ref du]) nL2
    have s56 := s5.trans s6
    have S6 := S3.trans (s4.trans s56)
    have edu6 := (s3.trans (s4.trans s56)) _ _ edu2
    refine .inl ⟨.ref L1, .ref L2, rfl, rl_two (s6 _ _ upd_same) upd_same (rt_pair ((s4.trans s56) _ _ ep1) edu6) (rt_pair (s56 _ _ ep2) edu6), fun H7 s7 => ⟨true, rfl, iteF ?_⟩⟩
    -- the order of the columns
    have S7 := S6.trans s7
    have edu7 := s7 _ _ edu6
    have P7 := hP.same S7
    have nda : du ≠ a := hP.ne ndu
    clear s1 s2 s3 s4 s5 s6 s56 S2 S3 S6 edu edu2 edu6
    refine ⟨.ref a, rfl, .ref b, rfl, a, b, n, xs, rfl, P7, by omega, SqL.of (S7 _ _ eb), by omega, fun m1 H8 xs' nm1 b8 P8 em1 pm1 => ?_⟩
    have nm1a : m1 ≠ a := P7.ne nm1
    refine ⟨.ref a, rfl, .ref c, rfl, a, c, _, ys, rfl, P8, by omega, SqL.of (b8 _ _ nca (S7 _ _ ec)), by omega, fun m2 H9 ys' nm2 b9 P9 em2 pm2 => ?_⟩
    refine ⟨m1, m2, xs', ys', rfl, SqL.of (b9 _ _ nm1a em1), SqL.of em2, st.perm pm1, st'.perm pm2, by rw [pm1.length_eq, pm2.length_eq, hl], fun H10 p3 s10 np3 ep3 => ?_⟩
    have edu10 := s10 _ _ (b9 _ _ nda (b8 _ _ nda edu7))
    rw [show gLo xs' ys' = gLo xs ys by unfold gLo; rw [gaps_perm pm1 pm2], show gHi xs' ys' = gHi xs ys by unfold gHi; rw [gaps_perm pm1 pm2]] at ep3
    refine ⟨.ref du, rfl, .inr ⟨.ref p3, .ref du, rfl, rt_pair ep3 edu10, fun H11 s11 => ⟨true, rfl, iteF ?_⟩⟩⟩
    have B11 : But a H H11 := (But.of S7).trans (b8.trans (b9.trans (But.of (s10.trans s11))))
    have P11 := (P9.same s10).same s11
    have edu11 := s11 _ _ edu10
    clear b8 b9 s10 s11 P8 P9 em1 em2 ep3 nm1 nm2 S7 edu7 edu10 P7 s7
    -- low, high
    refine ⟨.ref du, rfl, du, [_, _], rfl, SqT.of edu11, rfl, _, [_], rfl, _, [], rfl, rfl, ?_⟩
    have eb11 := B11 _ _ nba eb
    have ec11 := B11 _ _ nca ec
    refine ⟨.ref c, rfl, .ref b, rfl, c, b, ys, xs, rfl, SqL.of ec11, SqL.of eb11, st', st, hl.symm, fun H12 p4 s12 np4 ep4 => ?_⟩
    refine ⟨_, rfl, 0, _, rfl, rfl, _, rfl, 0, _, rfl, rfl, (by show 2 ≤ sizeLine; decide), fun t nt => ?_⟩
    have s13 := same_new (H := H12) (p := t) (.tup [.int (0 - gHi xs ys), .int (0 - gLo xs ys)]) nt
    rw [show gLo ys xs = 0 - gHi xs ys by unfold gLo gHi; rw [gaps_neg, mn_neg]; omega, show gHi ys xs = 0 - gLo xs ys by unfold gLo gHi; rw [gaps_neg, mx_neg]; omega] at ep4
    refine .inr ⟨.ref p4, .ref t, rfl, rt_pair (s13 _ _ ep4) upd_same, fun H14 s14 => ⟨true, rfl, iteF ?_⟩⟩
    have s114 := s12.trans (s13.trans s14)
    have eb14 := s114 _ _ eb11
    have ec14 := s114 _ _ ec11
    have P14 := P11.same s114
    have B14 : But a H H14 := B11.trans (But.of s114)
    clear s12 s13 s14 s114 ep4 edu11 P11 B11 eb11 ec11
    refine ⟨.ref b, rfl, .ref c, rfl, (by show 2 ≤ sizeLine; decide), fun L3 nL3 => ⟨L3, .list [dl xs, dl ys], rfl, .lst (SqL.of upd_same) (.cons (dpl (SqL.of (same_new _ nL3 _ _ eb14))) (.cons (dpl (SqL.of (same_new _ nL3 _ _ ec14))) .nil)), nb, _, rfl, rfl, _, rfl, ite_f not_ne ?_⟩⟩
    have s15 := same_new (H := H14) (p := L3) (.lst [.ref b, .ref c]) nL3
    have eb15 := s15 _ _ eb14
    have ec15 := s15 _ _ ec14
    have P15 := P14.same s15
    have B15 : But a H (upd H14 L3 (.lst [.ref b, .ref c])) := B14.trans (But.of s15)
    generalize upd H14 L3 _ = H15 at s15 eb15 ec15 P15 B15 ⊢
    -- more
    refine ⟨.ref a, rfl, 10, 30, rfl, rfl, ⟨by decide, by decide⟩, a, _, _, rfl, P15, by omega, by rw [eb30]; decide, by rw [eb30]; decide, fun r H16 b16 P16 r0 r1 => ?_⟩
    have eb16 := b16 _ _ nba eb15
    have ec16 := b16 _ _ nca ec15
    have l2 := st'.len
    refine ⟨10, 30, rfl, rfl, ⟨by decide, by decide⟩, .ref c, rfl, c, ys, rfl, SqL.of ec16, by omega, fun m hm hm2 => ⟨_, _, rfl, rfl, _, _, rfl, ?_⟩⟩
    obtain rfl : m = mx ys := (mx_eq hm hm2).symm
    have hmx := mx_in st'.ne st'.all
    rw [eb30] at r1 ⊢
    have hMo : ∃ mo : Int, (if 1000000000000000000000000000000 - mx ys < r then 1000000000000000000000000000000 - mx ys else r) = mo ∧ 0 ≤ mo ∧ mo ≤ 1000000000000000000000000000000 - mx ys := by
      have h' : mx ys ≤ 1000000000000000000000000000000 := hmx.2
      refine ⟨_, rfl, ?_, ?_⟩ <;> split <;> omega
    obtain ⟨mo, emo, mo0, mo1⟩ := hMo
    rw [emo]
    -- lifted
    refine ⟨.ref c, rfl, c, rfl, ⟨_, SqL.of ec16⟩, fun D nD => ?_⟩
    refine lc_list (K := K) (a := c) (xs := ys.map V.int) (fun i H' => Same H16 H' ∧ H' D = some (.lst (((ys.map (· + mo)).take i).map V.int))) ⟨same_new _ nD, upd_same⟩ (fun i H' _ h => SqL.of (h.1 _ _ ec16)) (fun i v H' ev h => ?_) (fun H17 h => ?_)
    · obtain ⟨y, ey, rfl⟩ := get_map ev
      refine ⟨rfl, ?_⟩
      refine ⟨_, rfl, _, rfl, y, mo, rfl, rfl, _, h.2, ?_, same_set h.1 nD, ?_⟩
      · rw [List.length_map, List.length_take, List.length_map]; exact small_of (m := 100) (by omega) (by decide)
      · rw [upd_same]
        refine congrArg (fun z => some (HO.lst z)) (take_map_succ V.int ?_)
        rw [List.getElem?_map, ey]; rfl
    · obtain ⟨s17, eD⟩ := h
      rw [List.length_map, ← List.length_map (as := ys) (f := (· + mo)), List.take_length] at eD
      have eb17 := s17 _ _ eb16
      have stL : IsStart (ys.map (· + mo)) := ⟨by rw [List.length_map]; exact l2, fun z hz => by
        obtain ⟨y, hy, rfl⟩ := List.mem_map.mp hz
        have h1 := st'.all y hy
        have h2 := (mx_spec st'.ne).2 y hy
        exact ⟨by show 0 ≤ y + mo; omega, by show y + mo ≤ 1000000000000000000000000000000; omega⟩⟩
      refine ⟨.ref b, rfl, .ref D, rfl, b, D, xs, ys.map (· + mo), rfl, SqL.of eb17, SqL.of eD, st, stL, by rw [List.length_map]; exact hl, fun H18 p5 s18 np5 ep5 => ?_⟩
      refine ⟨_, rfl, _, rfl, _, _, rfl, rfl, _, rfl, _, rfl, _, _, rfl, rfl, (by show 2 ≤ sizeLine; decide), fun t2 nt2 => ?_⟩
      have s19 := same_new (H := H18) (p := t2) (.tup [.int (gLo xs ys + mo), .int (gHi xs ys + mo)]) nt2
      rw [show gLo xs (ys.map (· + mo)) = gLo xs ys + mo by unfold gLo; rw [gaps_add, mn_add gne], show gHi xs (ys.map (· + mo)) = gHi xs ys + mo by unfold gHi; rw [gaps_add, mx_add gne]] at ep5
      refine .inr ⟨.ref p5, .ref t2, rfl, rt_pair (s19 _ _ ep5) upd_same, fun H20 s20 => ?_⟩
      have s1620 := s17.trans (s18.trans (s19.trans s20))
      exact q H20 (B15.trans (b16.trans (But.of s1620))) ((P16.same s1620).mono (by omega))
end

section
variable {P : Program} {w : World} {K : PySem.W.Frag} {mg : Str → Option Value} {base : Heap}
theorem cut_toG {xs : List Int} {k : Nat} : cutV (xs.map V.int) none (some (k : Int)) = (xs.take k).map V.int := by
  rcases Nat.le_total k xs.length with h | h
  · exact cut_to h
  · unfold cutV
    rw [HT.sIx_nat, HT.sIx_none, List.length_map, Nat.min_eq_right h, ← List.map_drop, ← List.map_take, List.take_of_length_le h]
    show ((xs.drop 0).take (xs.length - 0)).map V.int = _
    rw [List.drop_zero, Nat.sub_zero, List.take_length]
theorem ite_of {tt : Bool} {σ : L2.St} {H : Hp} {Q : VK} {c1 c2 : Int} (h : Q (.int (if tt = true then c1 else c2)) H) : if tt = true then tC (.int c1) σ H Q else tC (.int c2) σ H Q := by
  cases tt <;> exact h
def spLaw (K : PySem.W.Frag) : Sp := fun vs H Q _ => ∃ (a : Addr) (ns : List Int), vs = [.ref a] ∧ Scr K H a (ns.map V.int) ∧ ns.length ≤ 63 ∧ ∀ H', Q (.bl true) H'
set_option maxHeartbeats 4000000 in
theorem ok_law (T : Txt K mg) : FnG P w K mg base CX0 8 T.a_law T.d_law ["script"] (spLaw K) := by
  refine funG0 T.F_law sc_law (fun vs H Q E h => ?_) (fun cdv A outer s H vs Q E hgu hr h => ?_)
  · obtain ⟨a, ns, rfl, _⟩ := h; rfl
  · obtain ⟨a, ns, rfl, hS, hl, q⟩ := h
    have eb30 : ((10 : Int) ^ (30 : Int).toNat) = 1000000000000000000000000000000 := by decide +kernel
    refine ⟨_, (pss_cons (ps_for PassesOwn.never rfl (pi_enum (by rfl) T.z_enumerate (pa_cons (pe_op op_cat (pe_slice sl_list (pv 0) po_none (po_some pe_int)) (pe_lst (pa_cons pe_int pa_nil))) pa_nil)) (pg_tup rfl (pgs_cons (pg_name (i := 1) sc_law.nd rfl (.inl rfl)) (pgs_cons (pg_name (i := 2) sc_law.nd rfl (.inl rfl)) pgs_nil)))
  (pss_cons (ps_set (i := 3) sc_law.nd rfl (.inr rfl) (pe_call (ok_law_bag T) (hr.mono (by decide)) (by rfl) T.g_law_bag T.F_law_bag.kp T.b_law_bag .nil pass0 (pa_cons (pv 2) pa_nil)))
  (pss_cons (ps_set (i := 4) sc_law.nd rfl (.inl rfl) (pe_cmpR op_eq (pv 1) (pe_callB call_len_seq (by rfl) T.z_len (by decide +kernel) (pa_cons (pe_slice sl_list (pv 0) po_none (po_some pe_int)) pa_nil)) (nomark _)))
  (pss_one (ps_for PassesOwn.never rfl (pi_range1 (by rfl) T.z_range (pa_cons (pe_ifExp (pt_val (pv 4)) pe_int pe_int) pa_nil)) (pg_name (i := 5) sc_law.nd rfl (.inl rfl))
  (pss_cons (ps_set (i := 6) sc_law.nd rfl (.inr rfl) (pe_ix ix_list (pe_lst (pa_cons pe_int (pa_cons (pe_op op_powW pe_int pe_int) pa_nil))) (pe_call (ok_law_draw T) (hr.mono (by decide)) (by rfl) T.g_law_draw T.F_law_draw.kp T.b_law_draw .nil pass0 (pa_cons (pv 3) (pa_cons pe_int pa_nil))) (fun _ _ => rfl)))
  (pss_cons (ps_set (i := 7) sc_law.nd rfl (.inl rfl) (pe_call (ok_law_first T) (hr.mono (by decide)) (by rfl) T.g_law_first T.F_law_first.kp T.b_law_first .nil pass0 (pa_cons (pv 3) (pa_cons (pe_ifExp (pt_val (pv 4)) pe_int pe_int) (pa_cons (pv 6) pa_nil)))))
  (pss_cons (ps_setLc (i := 8) (own := [("column", 11)]) (te := tCall spDraw [] E0 (tCons (tVar 3) (tCons (tOp (rIxL K) (tLst (tCons (tC (.int 3)) (tCons (tOp (rI0 fun i j => .int (i + j)) (tVar 6) (tC (.int 1))) tNil))) (tCall spDraw [] E0 (tCons (tVar 3) (tCons (tC (.int 2)) tNil)))) tNil))) rfl sc_law.nd rfl rfl (sw_true rfl rfl rfl (by decide +kernel)) (pi_list (pv 7)) (blkOk_by (own := [("column", 11)]) (N := nm_law) (sc := defScope s_law) (by decide +kernel)) (fun _ _ _ _ _ => (pg_name (i := 11) sc_law.nd rfl (.inl rfl))) (fun _ _ _ _ _ => pts_nil) (fun _ _ _ _ _ => (pe_call (ok_law_draw T) (hr.mono (by decide)) (by rfl) T.g_law_draw T.F_law_draw.kp T.b_law_draw .nil pass0 (pa_cons (pv 3) (pa_cons (pe_ix ix_list (pe_lst (pa_cons pe_int (pa_cons (pe_op op_add (pv 6) pe_int) pa_nil))) (pe_call (ok_law_draw T) (hr.mono (by decide)) (by rfl) T.g_law_draw T.F_law_draw.kp T.b_law_draw .nil pass0 (pa_cons (pv 3) (pa_cons pe_int pa_nil))) (fun _ _ => rfl)) pa_nil)))))
  (pss_cons (ps_set (i := 9) sc_law.nd rfl (.inl rfl) (pe_callTy call_list_of (by rfl) T.z_list (by decide +kernel) (pa_cons (pv 7) pa_nil)))
  (pss_cons (ps_asg (pe_call (ok_law_draw T) (hr.mono (by decide)) (by rfl) T.g_law_draw T.F_law_draw.kp T.b_law_draw .nil pass0 (pa_cons (pv 3) (pa_cons (pe_op op_add (pv 6) pe_int) pa_nil))) (pg_sub (pv 9) (pe_call (ok_law_draw T) (hr.mono (by decide)) (by rfl) T.g_law_draw T.F_law_draw.kp T.b_law_draw .nil pass0 (pa_cons (pv 3) (pa_cons (pe_callB call_len_seq (by rfl) T.z_len (by decide +kernel) (pa_cons (pv 9) pa_nil)) pa_nil))) set_list))
  (pss_one (ps_for PassesOwn.never rfl (pi_list (pe_lst (pa_cons (pv 8) (pa_cons (pv 9) (pa_cons (pv 7) pa_nil))))) (pg_name (i := 10) sc_law.nd rfl (.inl rfl))
  (pss_one (ps_if (pt_not (pt_val (pe_callG (ok_law_holds T) hgu hr (by rfl) T.g_law_holds T.F_law_holds.kp T.b_law_holds .nil pass0 (pa_cons (pv 3) (pa_cons (pv 7) (pa_cons (pv 10) pa_nil))))))
  (pss_one (ps_ret pe_bl))
  pss_nil))))))))))))))
  (pss_one (ps_ret (pe_cmpR (op_eqD hr.units) (pe_call (ok_gap_between T) (hr.mono (by decide)) (by rfl) T.g_gap_between T.F_gap_between.kp T.b_gap_between .nil pass0 (pa_cons (pe_lst (pa_cons pe_int pa_nil)) (pa_cons (pe_lst (pa_cons (pe_op op_powW pe_int pe_int) pa_nil)) pa_nil))) (pe_tup (pa_cons (pe_op op_powW pe_int pe_int) (pa_cons (pe_op op_powW pe_int pe_int) pa_nil))) (nomark _))))), ?_⟩
    -- script[:8] + [0]
    refine ⟨.ref a, rfl, 8, rfl, a, _, rfl, hS.sq, fun p1 np1 => ?_⟩
    rw [show (8 : Int) = ((8 : Nat) : Int) from rfl, cut_toG]
    have s1 := same_new (H := H) (p := p1) (.lst ((ns.take 8).map V.int)) np1
    refine ⟨(by show 1 ≤ sizeLine; decide), fun p2 np2 => ?_⟩
    have s2 := same_new (p := p2) (.lst [.int 0]) np2
    refine ⟨p1, p2, _, _, rfl, rfl, s2 _ _ upd_same, upd_same, ?_, fun R nR => ?_⟩
    · rw [List.length_map, List.length_take]; exact small_le (m := 100) (by simp only [List.length_cons, List.length_nil]; omega) (by decide)
    have s3 := same_new (p := R) (.lst ((ns.take 8).map V.int ++ [.int 0])) nR
    have eR : (upd (upd (upd H p1 (.lst ((ns.take 8).map V.int))) p2 (.lst [.int 0])) R (.lst ((ns.take 8).map V.int ++ [.int 0]))) R = some (.lst ((ns.take 8 ++ [0]).map V.int)) := by rw [upd_same, List.map_append]; rfl
    have S3 := s1.trans (s2.trans s3)
    generalize upd (upd (upd H p1 _) p2 _) R _ = H3 at eR S3 ⊢
    have lR : (ns.take 8 ++ [0]).length ≤ 9 := by rw [List.length_append, List.length_take]; simp only [List.length_cons, List.length_nil]; omega
    generalize ns.take 8 ++ [0] = cells at eR lR
    refine ⟨R, _, rfl, SqL.of eR, ?_⟩
    refine for_enum (K := K) (a := R) (xs := cells.map V.int) (fun i σ H' => ∃ y1 y2 y3 y4 y5 y6 y7 y8 y9 y10 y11, σ = [some (.ref a), y1, y2, y3, y4, y5, y6, y7, y8, y9, y10, y11] ∧ Same H3 H') ⟨none, none, none, none, none, none, none, none, none, none, none, rfl, Same.refl _⟩ (fun i σ H' _ h => ?_) (fun i x σ H' Tp ex h nTp => ?_) (fun σ H' h => ?_)
    · obtain ⟨_, _, _, _, _, _, _, _, _, _, _, _, s'⟩ := h
      exact SqL.of (s' _ _ eR)
    · obtain ⟨y1, y2, y3, y4, y5, y6, y7, y8, y9, y10, y11, rfl, s'⟩ := h
      obtain ⟨cell, ec, rfl⟩ := get_map ex
      have sT := same_new (H := H') (p := Tp) (.tup [.int (i : Nat), .int cell]) nTp
      refine ⟨Tp, [_, _], rfl, SqT.of upd_same, rfl, _, [_], rfl, _, [], rfl, rfl, ?_⟩
      have S4 := S3.trans (s'.trans sT)
      have S34 := s'.trans sT
      generalize upd H' Tp _ = H4 at S4 S34 ⊢
      -- bag
      refine ⟨.int cell, rfl, cell, rfl, fun p H5 np s5 P5 => ?_⟩
      have S5 := S4.trans s5
      have S35 := S34.trans s5
      have npH3 : H3 p = none := S34.free np
      -- is_last
      refine ⟨.int (i : Nat), rfl, .ref a, rfl, 8, rfl, a, _, rfl, (hS.same S5).sq, fun p6 np6 => ?_⟩
      have s6 := same_new (H := H5) (p := p6) (.lst (cutV (ns.map V.int) none (some 8))) np6
      refine ⟨p6, _, rfl, .inl (SqL.of upd_same), rfl, ?_⟩
      generalize decide (V.int (i : Nat) = V.int _) = last
      have S6 := S5.trans s6
      have S36 := S35.trans s6
      have P6 := P5.same s6
      generalize upd H5 p6 _ = H6 at S6 S36 P6 ⊢
      refine ⟨.bl last, rfl, last, rfl, ?_⟩
      have hN : ∃ N : Int, (if last = true then (1 : Int) else 4) = N ∧ 0 ≤ N ∧ N ≤ 4 := by
        cases last
        · exact ⟨4, rfl, by decide, by decide⟩
        · exact ⟨1, rfl, by decide, by decide⟩
      obtain ⟨N, eN, N0, N4⟩ := hN
      refine ite_of (c1 := 1) (c2 := 4) ?_
      rw [eN]
      refine ⟨N, rfl, by omega, by omega, ?_⟩
      refine for_range (lo := 0) (n := N.toNat) (fun j σ H7 => ∃ y5 y6 y7 y8 y9 y10 y11, σ = [some (.ref a), some (.int (i : Nat)), some (.int cell), some (.ref p), some (.bl last), y5, y6, y7, y8, y9, y10, y11] ∧ Same H3 H7 ∧ Src H7 p (10000 * j)) ⟨y5, y6, y7, y8, y9, y10, y11, rfl, S36, P6.mono (by omega)⟩ (fun j σ H7 hj h => ?_) (fun σ H7 h => ?_)
      · obtain ⟨y5, y6, y7, y8, y9, y10, y11, rfl, S37, P7⟩ := h
        have S7 := S3.trans S37
        -- top
        refine ⟨10, 30, rfl, rfl, ⟨by decide, by decide⟩, (by show 2 ≤ sizeLine; decide), fun o1 no1 => ?_⟩
        have s8 := same_new (H := H7) (p := o1) (.lst [.int 9, .int (10 ^ (30 : Int).toNat)]) no1
        refine ⟨.ref p, rfl, p, 2, _, rfl, P7.same s8, by omega, by decide, by decide, fun r1 H9 b9 P9 r10 r11 => ?_⟩
        obtain ⟨top, et, t0, t1⟩ := pick_int (ns := [9, 10 ^ (30 : Int).toNat]) (lo := 0) (hi := big) r10 r11 (fun z hz => by
          simp only [List.mem_cons, List.not_mem_nil, or_false] at hz
          rw [eb30] at hz
          rcases hz with rfl | rfl
          · exact ⟨by decide, by decide⟩
          · exact ⟨by decide, Int.le_refl _⟩)
        refine ⟨o1, _, _, .int top, rfl, rfl, SqL.of (b9 _ _ (P7.ne no1) upd_same), et, ?_⟩
        have S39 : Same H3 H9 := same_but (S37.trans s8) npH3 b9
        have t1' : top ≤ 1000000000000000000000000000000 := t1
        -- first
        refine ⟨.ref p, rfl, .bl last, rfl, last, rfl, ?_⟩
        have hM : ∃ M : Int, (if last = true then (3 : Int) else 30) = M ∧ 1 ≤ M ∧ M ≤ 30 := by
          cases last
          · exact ⟨30, rfl, by decide, by decide⟩
          · exact ⟨3, rfl, by decide, by decide⟩
        obtain ⟨M, eM, M0, M4⟩ := hM
        refine ite_of (c1 := 3) (c2 := 30) ?_
        rw [eM]
        refine ⟨.int top, rfl, p, _, M, top, rfl, P9, by omega, M0, M4, t0, t1, fun f H10 fs nf b10 P10 ef lf0 lf1 af => ?_⟩
        have S310 : Same H3 H10 := same_but S39 npH3 b10
        have nfp : f ≠ p := P9.ne nf
        have nfH3 : H3 f = none := S39.free nf
        have stF : IsStart fs := ⟨⟨lf0, by omega⟩, fun n hn => ⟨(af n hn).1, Int.le_trans (af n hn).2 t1⟩⟩
        -- second
        refine ⟨.ref f, rfl, f, rfl, ⟨_, SqL.of ef⟩, fun D nD => ?_⟩
        have nDp : D ≠ p := P10.ne nD
        have nDf : f ≠ D := ne_of_none ef nD
        have nDH3 : H3 D = none := S310.free nD
        refine lc_list (K := K) (a := f) (xs := fs.map V.int) (fun k H' => ∃ bs : List Int, But p H10 H' ∧ Src H' p (10000 * j + 1000 + 10 * k) ∧ H' D = some (.lst (bs.map V.int)) ∧ bs.length = k ∧ ∀ b ∈ bs, 0 ≤ b ∧ b ≤ big)
          ⟨[], But.of (same_new _ nD), (P10.same (same_new _ nD)).mono (by omega), upd_same, rfl, fun b h => by cases h⟩ (fun k H' _ h => ?_) (fun k v H' ev h => ?_) (fun H11 h => ?_)
        · obtain ⟨bs, b0, _⟩ := h
          exact SqL.of (b0 _ _ nfp ef)
        · obtain ⟨bs, b0, p0, eD, lD, aD⟩ := h
          obtain ⟨z, ez, rfl⟩ := get_map ev
          have hk : k < 30 := by have := get_lt ez; omega
          refine ⟨rfl, ?_⟩
          refine ⟨.ref p, rfl, .int top, rfl, top, 1, rfl, rfl, (by show 2 ≤ sizeLine; decide), fun o2 no2 => ?_⟩
          have so := same_new (H := H') (p := o2) (.lst [.int 3, .int (top + 1)]) no2
          refine ⟨.ref p, rfl, p, 2, _, rfl, p0.same so, by omega, by decide, by decide, fun r2 H12 b12 P12 r20 r21 => ?_⟩
          obtain ⟨wd, ew, w0, w1⟩ := pick_int (ns := [3, top + 1]) (lo := 1) (hi := 1000000000000000000000000000001) r20 r21 (fun z hz => by
            simp only [List.mem_cons, List.not_mem_nil, or_false] at hz
            rcases hz with rfl | rfl <;> omega)
          refine ⟨o2, _, _, .int wd, rfl, rfl, SqL.of (b12 _ _ (p0.ne no2) upd_same), ew, ?_⟩
          refine ⟨p, wd, _, rfl, P12, by omega, w0, by omega, fun r3 H13 b13 P13 r30 r31 => ?_⟩
          have B13 := (But.of so).trans (b12.trans b13)
          refine ⟨_, B13 _ _ nDp eD, ?_, bs ++ [r3], but_set (b0.trans B13) nD, (P13.upd nDp.symm).mono (by omega), ?_, by rw [List.length_append, lD]; rfl, fun z hz => ?_⟩
          · rw [List.length_map, lD]; exact small_of (m := 100) (by omega) (by decide)
          · rw [upd_same, List.map_append]; rfl
          · rcases List.mem_append.mp hz with hz | hz
            · exact aD z hz
            · rw [List.mem_singleton.mp hz]; exact ⟨r30, by show r3 ≤ 1000000000000000000000000000000; omega⟩
        · obtain ⟨bs, b11, P11, eD, lD, aD⟩ := h
          rw [List.length_map] at lD P11
          have S311 : Same H3 H11 := same_but S310 npH3 b11
          have ef11 := b11 _ _ nfp ef
          have stS : IsStart bs := ⟨⟨by omega, by omega⟩, aD⟩
          -- third
          refine ⟨.ref f, rfl, f, _, rfl, .inl (SqL.of ef11), fun t nt => ?_⟩
          have s12 := same_new (H := H11) (p := t) (.lst (fs.map V.int)) nt
          have et12 : (upd H11 t (.lst (fs.map V.int))) t = some (.lst (fs.map V.int)) := upd_same
          have S312 := S311.trans s12
          have ef12 := s12 _ _ ef11
          have eD12 := s12 _ _ eD
          have P12 := P11.same s12
          have ntf : f ≠ t := ne_of_none ef11 nt
          have ntD : D ≠ t := ne_of_none eD nt
          have ntp : t ≠ p := P11.ne nt
          have ntH3 : H3 t = none := S311.free nt
          generalize upd H11 t _ = H12 at et12 S312 ef12 eD12 P12 ⊢
          refine ⟨.ref p, rfl, .int top, rfl, top, 1, rfl, rfl, p, top + 1, _, rfl, P12, by omega, by omega, by omega, fun r4 H13 b13 P13 r40 r41 => ?_⟩
          have et13 := b13 _ _ ntp et12
          refine ⟨.ref t, rfl, .ref p, rfl, .ref t, rfl, t, _, rfl, .inl (SqL.of et13), p, _, _, rfl, P13, by omega, by rw [List.length_map]; omega, by rw [List.length_map]; omega, fun r5 H14 b14 P14 r50 r51 => ?_⟩
          rw [List.length_map] at r51
          obtain ⟨k, rfl⟩ := Int.eq_ofNat_of_zero_le r50
          have hk : k < (fs.map V.int).length := by rw [List.length_map]; omega
          have et14 := b14 _ _ ntp et13
          have ef14 := (b13.trans b14) _ _ nfp ef12
          have eD14 := (b13.trans b14) _ _ nDp eD12
          have S314 : Same H3 H14 := same_but S312 npH3 (b13.trans b14)
          refine ⟨t, _, _, k, rfl, rfl, et14, ixN_nat hk, ?_⟩
          have et15 : (upd H14 t (.lst ((fs.map V.int).set k (.int r4)))) t = some (.lst ((fs.set k r4).map V.int)) := by rw [upd_same, List.map_set]
          have ef15 : (upd H14 t (.lst ((fs.map V.int).set k (.int r4)))) f = some (.lst (fs.map V.int)) := by rw [upd_ne ntf]; exact ef14
          have eD15 : (upd H14 t (.lst ((fs.map V.int).set k (.int r4)))) D = some (.lst (bs.map V.int)) := by rw [upd_ne ntD]; exact eD14
          have S315 : Same H3 (upd H14 t (.lst ((fs.map V.int).set k (.int r4)))) := same_set S314 ntH3
          have P15 : Src (upd H14 t (.lst ((fs.map V.int).set k (.int r4)))) p _ := P14.upd ntp.symm
          have stT : IsStart (fs.set k r4) := ⟨by rw [List.length_set]; exact stF.len, fun n hn => by
            rcases List.mem_or_eq_of_mem_set hn with hn | rfl
            · exact stF.all n hn
            · exact ⟨r40, by show n ≤ 1000000000000000000000000000000; omega⟩⟩
          generalize upd H14 t _ = H15 at et15 ef15 eD15 S315 P15 ⊢
          -- for other_start in
          refine ⟨.ref D, rfl, .ref t, rfl, .ref f, rfl, (by show 3 ≤ sizeLine; decide), fun W nW => ?_⟩
          have s16 := same_new (H := H15) (p := W) (.lst [.ref D, .ref t, .ref f]) nW
          have eW : (upd H15 W (.lst [.ref D, .ref t, .ref f])) W = some (.lst [.ref D, .ref t, .ref f]) := upd_same
          have S316 := S315.trans s16
          have et16 := s16 _ _ et15
          have ef16 := s16 _ _ ef15
          have eD16 := s16 _ _ eD15
          have P16 := P15.same s16
          have nWp : W ≠ p := P15.ne nW
          generalize upd H15 W _ = H16 at eW S316 et16 ef16 eD16 P16 ⊢
          refine ⟨W, rfl, ⟨_, SqL.of eW⟩, ?_⟩
          refine for_list (K := K) (a := W) (xs := [.ref D, .ref t, .ref f]) (fun k' σ H' => ∃ y10, σ = [some (.ref a), some (.int (i : Nat)), some (.int cell), some (.ref p), some (.bl last), some (.int (0 + j)), some (.int top), some (.ref f), some (.ref D), some (.ref t), y10, y11] ∧ But p H16 H' ∧ Src H' p (10000 * j + 2000 + 1000 * k'))
            ⟨y10, rfl, But.refl _ _, P16.mono (by omega)⟩ (fun k' σ H' _ h => ?_) (fun k' x σ H' hx h => ?_) (fun σ H' h => ?_)
          · obtain ⟨_, _, b', _⟩ := h
            exact SqL.of (b' _ _ nWp eW)
          · obtain ⟨y10, rfl, b', P'⟩ := h
            have hk' : k' < 3 := get_lt hx
            have ho : ∃ (o : Addr) (os : List Int), x = .ref o ∧ H16 o = some (.lst (os.map V.int)) ∧ o ≠ p ∧ IsStart os ∧ fs.length = os.length := by
              have : k' = 0 ∨ k' = 1 ∨ k' = 2 := by omega
              rcases this with rfl | rfl | rfl
              · cases hx; exact ⟨D, bs, rfl, eD16, nDp, stS, lD.symm⟩
              · cases hx; exact ⟨t, _, rfl, et16, ntp, stT, by rw [List.length_set]⟩
              · cases hx; exact ⟨f, fs, rfl, ef16, nfp, stF, rfl⟩
            obtain ⟨o, os, rfl, eo, nop, stO, lO⟩ := ho
            refine ⟨.ref p, rfl, .ref f, rfl, .ref o, rfl, p, f, o, _, fs, os, rfl, P', by omega, b' _ _ nfp ef16, b' _ _ nop eo, nfp, nop, stF, stO, lO, fun H17 b17 P17 => ⟨true, rfl, iteF ?_⟩⟩
            exact ⟨_, rfl, b'.trans b17, P17.mono (by omega)⟩
          · obtain ⟨y10, rfl, b', P'⟩ := h
            exact ⟨_, _, _, _, _, _, _, rfl, same_but S316 npH3 b', P'.mono (by show _ ≤ 10000 * ((j : Int) + 1); simp only [List.length_cons, List.length_nil]; omega)⟩
      · obtain ⟨y5, y6, y7, y8, y9, y10, y11, rfl, S37, _⟩ := h
        exact ⟨_, _, _, _, _, _, _, _, _, _, _, rfl, S37⟩
    · obtain ⟨y1, y2, y3, y4, y5, y6, y7, y8, y9, y10, y11, rfl, s'⟩ := h
      -- the last line
      refine ⟨(by show 1 ≤ sizeLine; decide), fun u1 nu1 => ?_⟩
      have s1 := same_new (H := H') (p := u1) (.lst [.int 0]) nu1
      refine ⟨10, 30, rfl, rfl, ⟨by decide, by decide⟩, (by show 1 ≤ sizeLine; decide), fun u2 nu2 => ?_⟩
      have s2 := same_new (p := u2) (.lst [.int (10 ^ (30 : Int).toNat)]) nu2
      have st0 : IsStart [0] := ⟨by decide, fun n hn => by rw [List.mem_singleton.mp hn]; exact ⟨by decide, by decide⟩⟩
      have st1 : IsStart [10 ^ (30 : Int).toNat] := ⟨by decide, fun n hn => by rw [List.mem_singleton.mp hn, eb30]; exact ⟨by decide, Int.le_refl _⟩⟩
      have g1 : gLo [0] [10 ^ (30 : Int).toNat] = 10 ^ (30 : Int).toNat := by
        unfold gLo gaps
        rw [← srt_eq (m := [0]) (List.Perm.refl _) (List.pairwise_singleton _ _), ← srt_eq (m := [10 ^ (30 : Int).toNat]) (List.Perm.refl _) (List.pairwise_singleton _ _)]
        show 10 ^ (30 : Int).toNat - (0 : Int) = _
        omega
      have g2 : gHi [0] [10 ^ (30 : Int).toNat] = 10 ^ (30 : Int).toNat := by
        unfold gHi gaps
        rw [← srt_eq (m := [0]) (List.Perm.refl _) (List.pairwise_singleton _ _), ← srt_eq (m := [10 ^ (30 : Int).toNat]) (List.Perm.refl _) (List.pairwise_singleton _ _)]
        show -(-(10 ^ (30 : Int).toNat - (0 : Int))) = _
        omega
      refine ⟨u1, u2, [0], [10 ^ (30 : Int).toNat], rfl, SqL.of (s2 _ _ upd_same), SqL.of upd_same, st0, st1, rfl, fun H9 p9 s9 np9 ep9 => ?_⟩
      rw [g1, g2] at ep9
      refine ⟨10, 30, rfl, rfl, ⟨by decide, by decide⟩, 10, 30, rfl, rfl, ⟨by decide, by decide⟩, (by show 2 ≤ sizeLine; decide), fun tq ntq => ?_⟩
      have s10 := same_new (H := H9) (p := tq) (.tup [.int (10 ^ (30 : Int).toNat), .int (10 ^ (30 : Int).toNat)]) ntq
      have dt : ∀ {H : Hp} {a : Addr} {x y : Int}, H a = some (.tup [.int x, .int y]) → Dp K H (.ref a) (.tuple [.int x, .int y]) := fun h => .tup (SqT.of h) (.cons (.int _) (.cons (.int _) .nil))
      refine ⟨_, _, dt (s10 _ _ ep9), dt upd_same, rfl, rfl, ?_⟩
      rw [SeqAt.eqv_refl _ (SeqAt.canLay_of_shaped rfl)]
      exact q _
end

set_option maxHeartbeats 4000000 in
theorem all_mk {l : PySem.W.OpenLaw} {w : World} {K : PySem.W.Frag} {h : Heap} {mg : Str → Option Value} {fa : Addr}
  (X : K.In h) (G : h.Ns mainGlobals mg) (hfa : mg "law" = some (.ref fa))
  {od0 an0 : Option Addr} {sl0 : Array (Option Value)} {oc0 kV0 dc0 pm0 cd0 ct0 : Value} {f0 : Addr}
  {od1 an1 : Option Addr} {sl1 : Array (Option Value)} {oc1 kV1 dc1 pm1 cd1 ct1 : Value} {f1 : Addr}
  {od2 an2 : Option Addr} {sl2 : Array (Option Value)} {oc2 kV2 dc2 pm2 cd2 ct2 : Value} {f2 : Addr}
  {od3 an3 : Option Addr} {sl3 : Array (Option Value)} {oc3 kV3 dc3 pm3 cd3 ct3 : Value} {f3 : Addr}
  {od4 an4 : Option Addr} {sl4 : Array (Option Value)} {oc4 kV4 dc4 pm4 cd4 ct4 : Value} {f4 : Addr}
  {od5 an5 : Option Addr} {sl5 : Array (Option Value)} {oc5 kV5 dc5 pm5 cd5 ct5 : Value} {f5 : Addr}
  {od6 an6 : Option Addr} {sl6 : Array (Option Value)} {oc6 kV6 dc6 pm6 cd6 ct6 : Value} {f6 : Addr}
  {od7 an7 : Option Addr} {sl7 : Array (Option Value)} {oc7 kV7 dc7 pm7 cd7 ct7 : Value} {f7 : Addr}
  {od8 an8 : Option Addr} {sl8 : Array (Option Value)} {oc8 kV8 dc8 pm8 cd8 ct8 : Value} {f8 : Addr}
  {od9 an9 : Option Addr} {sl9 : Array (Option Value)} {oc9 kV9 dc9 pm9 cd9 ct9 : Value} {f9 : Addr}
  {od10 an10 : Option Addr} {sl10 : Array (Option Value)} {oc10 kV10 dc10 pm10 cd10 ct10 : Value} {f10 : Addr}
  {od11 an11 : Option Addr} {sl11 : Array (Option Value)} {oc11 kV11 dc11 pm11 cd11 ct11 : Value} {f11 : Addr}
  {od12 an12 : Option Addr} {sl12 : Array (Option Value)} {oc12 kV12 dc12 pm12 cd12 ct12 : Value} {f12 : Addr}
  {od13 an13 : Option Addr} {sl13 : Array (Option Value)} {oc13 kV13 dc13 pm13 cd13 ct13 : Value} {f13 : Addr}
  {od14 an14 : Option Addr} {sl14 : Array (Option Value)} {oc14 kV14 dc14 pm14 cd14 ct14 : Value} {f14 : Addr}
  {od15 an15 : Option Addr} {sl15 : Array (Option Value)} {oc15 kV15 dc15 pm15 cd15 ct15 : Value} {f15 : Addr}
  (a0 : PySem.W.nsIn K mainGlobals "is_integer_within" = some (some (.ref f0)))
  (l0 : K.lookup f0 = some ⟨oc0, od0, .func (PySem.W.fnOf "is_integer_within" "is_integer_within" (defArgs s_is_integer_within) (defBody s_is_integer_within) (defScope s_is_integer_within) .none kV0 dc0 pm0 an0 cd0 ct0), sl0⟩)
  (c0 : PySem.W.codeIn K cd0 "is_integer_within" = true) (k0 : PySem.W.keepIn K (.ref f0) = true)
  (a1 : PySem.W.nsIn K mainGlobals "is_list_of_integers" = some (some (.ref f1)))
  (l1 : K.lookup f1 = some ⟨oc1, od1, .func (PySem.W.fnOf "is_list_of_integers" "is_list_of_integers" (defArgs s_is_list_of_integers) (defBody s_is_list_of_integers) (defScope s_is_list_of_integers) .none kV1 dc1 pm1 an1 cd1 ct1), sl1⟩)
  (c1 : PySem.W.codeIn K cd1 "is_list_of_integers" = true) (k1 : PySem.W.keepIn K (.ref f1) = true)
  (a2 : PySem.W.nsIn K mainGlobals "is_start" = some (some (.ref f2)))
  (l2 : K.lookup f2 = some ⟨oc2, od2, .func (PySem.W.fnOf "is_start" "is_start" (defArgs s_is_start) (defBody s_is_start) (defScope s_is_start) .none kV2 dc2 pm2 an2 cd2 ct2), sl2⟩)
  (c2 : PySem.W.codeIn K cd2 "is_start" = true) (k2 : PySem.W.keepIn K (.ref f2) = true)
  (a3 : PySem.W.nsIn K mainGlobals "check_start" = some (some (.ref f3)))
  (l3 : K.lookup f3 = some ⟨oc3, od3, .func (PySem.W.fnOf "check_start" "check_start" (defArgs s_check_start) (defBody s_check_start) (defScope s_check_start) .none kV3 dc3 pm3 an3 cd3 ct3), sl3⟩)
  (c3 : PySem.W.codeIn K cd3 "check_start" = true) (k3 : PySem.W.keepIn K (.ref f3) = true)
  (a4 : PySem.W.nsIn K mainGlobals "growths" = some (some (.ref f4)))
  (l4 : K.lookup f4 = some ⟨oc4, od4, .func (PySem.W.fnOf "growths" "growths" (defArgs s_growths) (defBody s_growths) (defScope s_growths) .none kV4 dc4 pm4 an4 cd4 ct4), sl4⟩)
  (c4 : PySem.W.codeIn K cd4 "growths" = true) (k4 : PySem.W.keepIn K (.ref f4) = true)
  (a5 : PySem.W.nsIn K mainGlobals "check_starts" = some (some (.ref f5)))
  (l5 : K.lookup f5 = some ⟨oc5, od5, .func (PySem.W.fnOf "check_starts" "check_starts" (defArgs s_check_starts) (defBody s_check_starts) (defScope s_check_starts) .none kV5 dc5 pm5 an5 cd5 ct5), sl5⟩)
  (c5 : PySem.W.codeIn K cd5 "check_starts" = true) (k5 : PySem.W.keepIn K (.ref f5) = true)
  (a6 : PySem.W.nsIn K mainGlobals "gap_of" = some (some (.ref f6)))
  (l6 : K.lookup f6 = some ⟨oc6, od6, .func (PySem.W.fnOf "gap_of" "gap_of" (defArgs s_gap_of) (defBody s_gap_of) (defScope s_gap_of) .none kV6 dc6 pm6 an6 cd6 ct6), sl6⟩)
  (c6 : PySem.W.codeIn K cd6 "gap_of" = true) (k6 : PySem.W.keepIn K (.ref f6) = true)
  (a7 : PySem.W.nsIn K mainGlobals "gap_between" = some (some (.ref f7)))
  (l7 : K.lookup f7 = some ⟨oc7, od7, .func (PySem.W.fnOf "gap_between" "gap_between" (defArgs s_gap_between) (defBody s_gap_between) (defScope s_gap_between) .none kV7 dc7 pm7 an7 cd7 ct7), sl7⟩)
  (c7 : PySem.W.codeIn K cd7 "gap_between" = true) (k7 : PySem.W.keepIn K (.ref f7) = true)
  (a8 : PySem.W.nsIn K mainGlobals "_law_bag" = some (some (.ref f8)))
  (l8 : K.lookup f8 = some ⟨oc8, od8, .func (PySem.W.fnOf "_law_bag" "_law_bag" (defArgs s_law_bag) (defBody s_law_bag) (defScope s_law_bag) .none kV8 dc8 pm8 an8 cd8 ct8), sl8⟩)
  (c8 : PySem.W.codeIn K cd8 "_law_bag" = true) (k8 : PySem.W.keepIn K (.ref f8) = true)
  (a9 : PySem.W.nsIn K mainGlobals "_law_draw" = some (some (.ref f9)))
  (l9 : K.lookup f9 = some ⟨oc9, od9, .func (PySem.W.fnOf "_law_draw" "_law_draw" (defArgs s_law_draw) (defBody s_law_draw) (defScope s_law_draw) .none kV9 dc9 pm9 an9 cd9 ct9), sl9⟩)
  (c9 : PySem.W.codeIn K cd9 "_law_draw" = true) (k9 : PySem.W.keepIn K (.ref f9) = true)
  (a10 : PySem.W.nsIn K mainGlobals "_law_equal" = some (some (.ref f10)))
  (l10 : K.lookup f10 = some ⟨oc10, od10, .func (PySem.W.fnOf "_law_equal" "_law_equal" (defArgs s_law_equal) (defBody s_law_equal) (defScope s_law_equal) .none kV10 dc10 pm10 an10 cd10 ct10), sl10⟩)
  (c10 : PySem.W.codeIn K cd10 "_law_equal" = true) (k10 : PySem.W.keepIn K (.ref f10) = true)
  (a11 : PySem.W.nsIn K mainGlobals "_law_first" = some (some (.ref f11)))
  (l11 : K.lookup f11 = some ⟨oc11, od11, .func (PySem.W.fnOf "_law_first" "_law_first" (defArgs s_law_first) (defBody s_law_first) (defScope s_law_first) .none kV11 dc11 pm11 an11 cd11 ct11), sl11⟩)
  (c11 : PySem.W.codeIn K cd11 "_law_first" = true) (k11 : PySem.W.keepIn K (.ref f11) = true)
  (a12 : PySem.W.nsIn K mainGlobals "_law_gap" = some (some (.ref f12)))
  (l12 : K.lookup f12 = some ⟨oc12, od12, .func (PySem.W.fnOf "_law_gap" "_law_gap" (defArgs s_law_gap) (defBody s_law_gap) (defScope s_law_gap) .none kV12 dc12 pm12 an12 cd12 ct12), sl12⟩)
  (c12 : PySem.W.codeIn K cd12 "_law_gap" = true) (k12 : PySem.W.keepIn K (.ref f12) = true)
  (a13 : PySem.W.nsIn K mainGlobals "_law_mixed" = some (some (.ref f13)))
  (l13 : K.lookup f13 = some ⟨oc13, od13, .func (PySem.W.fnOf "_law_mixed" "_law_mixed" (defArgs s_law_mixed) (defBody s_law_mixed) (defScope s_law_mixed) .none kV13 dc13 pm13 an13 cd13 ct13), sl13⟩)
  (c13 : PySem.W.codeIn K cd13 "_law_mixed" = true) (k13 : PySem.W.keepIn K (.ref f13) = true)
  (a14 : PySem.W.nsIn K mainGlobals "_law_holds" = some (some (.ref f14)))
  (l14 : K.lookup f14 = some ⟨oc14, od14, .func (PySem.W.fnOf "_law_holds" "_law_holds" (defArgs s_law_holds) (defBody s_law_holds) (defScope s_law_holds) .none kV14 dc14 pm14 an14 cd14 ct14), sl14⟩)
  (c14 : PySem.W.codeIn K cd14 "_law_holds" = true) (k14 : PySem.W.keepIn K (.ref f14) = true)
  (a15 : PySem.W.nsIn K mainGlobals "law" = some (some (.ref f15)))
  (l15 : K.lookup f15 = some ⟨oc15, od15, .func (PySem.W.fnOf "law" "law" (defArgs s_law) (defBody s_law) (defScope s_law) .none kV15 dc15 pm15 an15 cd15 ct15), sl15⟩)
  (c15 : PySem.W.codeIn K cd15 "law" = true) (k15 : PySem.W.keepIn K (.ref f15) = true)
  (z_isinstance : PySem.W.nsIn K mainGlobals "isinstance" = some none)
  (z_bool : PySem.W.nsIn K mainGlobals "bool" = some none)
  (z_int : PySem.W.nsIn K mainGlobals "int" = some none)
  (z_len : PySem.W.nsIn K mainGlobals "len" = some none)
  (z_type : PySem.W.nsIn K mainGlobals "type" = some none)
  (z_list : PySem.W.nsIn K mainGlobals "list" = some none)
  (z_all : PySem.W.nsIn K mainGlobals "all" = some none)
  (z_zip : PySem.W.nsIn K mainGlobals "zip" = some none)
  (z_sorted : PySem.W.nsIn K mainGlobals "sorted" = some none)
  (z_max : PySem.W.nsIn K mainGlobals "max" = some none)
  (z_min : PySem.W.nsIn K mainGlobals "min" = some none)
  (z_tuple : PySem.W.nsIn K mainGlobals "tuple" = some none)
  (z_str : PySem.W.nsIn K mainGlobals "str" = some none)
  (z_range : PySem.W.nsIn K mainGlobals "range" = some none)
  (z_repr : PySem.W.nsIn K mainGlobals "repr" = some none)
  (z_enumerate : PySem.W.nsIn K mainGlobals "enumerate" = some none)
  {t_MOST_HEIGHT : Tok} (c_MOST_HEIGHT : PySem.W.nsIn K mainGlobals "MOST_HEIGHT" = some (some (.int (1000000000000000000000000000000) t_MOST_HEIGHT)))
  {t_MOST_COLUMNS : Tok} (c_MOST_COLUMNS : PySem.W.nsIn K mainGlobals "MOST_COLUMNS" = some (some (.int (30) t_MOST_COLUMNS))) :
    ∃ fd : FuncData, (∀ (s : Shared) (v : Value), BindsTo s fd ⟨[v], []⟩ [("script", v)]) ∧
      ∀ base : Heap, K.In base → base.Ns mainGlobals mg → FnG l.prog w K mg base CX0 8 fa fd ["script"] (spLaw K) := by
  have e := hfa.symm.trans (PySem.W.mg_of X G a15)
  cases e
  have F0 := fun_mk (st := s_is_integer_within) l0 c0 k0
  have b0 := F0.binds (ps := ["value", "least", "greatest"]) fun _ _ _ _ _ _ us hl => match us, hl with | [_, _, _], _ => rfl
  have F1 := fun_mk (st := s_is_list_of_integers) l1 c1 k1
  have b1 := F1.binds (ps := ["value", "fewest", "most", "least", "greatest"]) fun _ _ _ _ _ _ us hl => match us, hl with | [_, _, _, _, _], _ => rfl
  have F2 := fun_mk (st := s_is_start) l2 c2 k2
  have b2 := F2.binds (ps := ["value"]) fun _ _ _ _ _ _ us hl => match us, hl with | [_], _ => rfl
  have F3 := fun_mk (st := s_check_start) l3 c3 k3
  have b3 := F3.binds (ps := ["start"]) fun _ _ _ _ _ _ us hl => match us, hl with | [_], _ => rfl
  have F4 := fun_mk (st := s_growths) l4 c4 k4
  have b4 := F4.binds (ps := ["before", "after"]) fun _ _ _ _ _ _ us hl => match us, hl with | [_, _], _ => rfl
  have F5 := fun_mk (st := s_check_starts) l5 c5 k5
  have b5 := F5.binds (ps := ["start", "other"]) fun _ _ _ _ _ _ us hl => match us, hl with | [_, _], _ => rfl
  have F6 := fun_mk (st := s_gap_of) l6 c6 k6
  have b6 := F6.binds (ps := ["columns", "others"]) fun _ _ _ _ _ _ us hl => match us, hl with | [_, _], _ => rfl
  have F7 := fun_mk (st := s_gap_between) l7 c7 k7
  have b7 := F7.binds (ps := ["start", "other"]) fun _ _ _ _ _ _ us hl => match us, hl with | [_, _], _ => rfl
  have F8 := fun_mk (st := s_law_bag) l8 c8 k8
  have b8 := F8.binds (ps := ["cell"]) fun _ _ _ _ _ _ us hl => match us, hl with | [_], _ => rfl
  have F9 := fun_mk (st := s_law_draw) l9 c9 k9
  have b9 := F9.binds (ps := ["bag", "most"]) fun _ _ _ _ _ _ us hl => match us, hl with | [_, _], _ => rfl
  have F10 := fun_mk (st := s_law_equal) l10 c10 k10
  have b10 := F10.binds (ps := ["found", "due"]) fun _ _ _ _ _ _ us hl => match us, hl with | [_, _], _ => rfl
  have F11 := fun_mk (st := s_law_first) l11 c11 k11
  have b11 := F11.binds (ps := ["bag", "most", "top"]) fun _ _ _ _ _ _ us hl => match us, hl with | [_, _, _], _ => rfl
  have F12 := fun_mk (st := s_law_gap) l12 c12 k12
  have b12 := F12.binds (ps := ["one", "two"]) fun _ _ _ _ _ _ us hl => match us, hl with | [_, _], _ => rfl
  have F13 := fun_mk (st := s_law_mixed) l13 c13 k13
  have b13 := F13.binds (ps := ["bag", "some"]) fun _ _ _ _ _ _ us hl => match us, hl with | [_, _], _ => rfl
  have F14 := fun_mk (st := s_law_holds) l14 c14 k14
  have b14 := F14.binds (ps := ["bag", "first", "second"]) fun _ _ _ _ _ _ us hl => match us, hl with | [_, _, _], _ => rfl
  have F15 := fun_mk (st := s_law) l15 c15 k15
  have b15 := F15.binds (ps := ["script"]) fun _ _ _ _ _ _ us hl => match us, hl with | [_], _ => rfl
  exact ⟨_, fun s v => .of_eq rfl, fun base _ _ => ok_law (⟨f0, _, F0, b0, (PySem.W.mg_of X G a0), f1, _, F1, b1, (PySem.W.mg_of X G a1), f2, _, F2, b2, (PySem.W.mg_of X G a2), f3, _, F3, b3, (PySem.W.mg_of X G a3), f4, _, F4, b4, (PySem.W.mg_of X G a4), f5, _, F5, b5, (PySem.W.mg_of X G a5), f6, _, F6, b6, (PySem.W.mg_of X G a6), f7, _, F7, b7, (PySem.W.mg_of X G a7), f8, _, F8, b8, (PySem.W.mg_of X G a8), f9, _, F9, b9, (PySem.W.mg_of X G a9), f10, _, F10, b10, (PySem.W.mg_of X G a10), f11, _, F11, b11, (PySem.W.mg_of X G a11), f12, _, F12, b12, (PySem.W.mg_of X G a12), f13, _, F13, b13, (PySem.W.mg_of X G a13), f14, _, F14, b14, (PySem.W.mg_of X G a14), fa, _, F15, b15, (PySem.W.mg_of X G a15), (PySem.W.mg_none_of X G z_isinstance), (PySem.W.mg_none_of X G z_bool), (PySem.W.mg_none_of X G z_int), (PySem.W.mg_none_of X G z_len), (PySem.W.mg_none_of X G z_type), (PySem.W.mg_none_of X G z_list), (PySem.W.mg_none_of X G z_all), (PySem.W.mg_none_of X G z_zip), (PySem.W.mg_none_of X G z_sorted), (PySem.W.mg_none_of X G z_max), (PySem.W.mg_none_of X G z_min), (PySem.W.mg_none_of X G z_tuple), (PySem.W.mg_none_of X G z_str), (PySem.W.mg_none_of X G z_range), (PySem.W.mg_none_of X G z_repr), (PySem.W.mg_none_of X G z_enumerate), t_MOST_HEIGHT, (PySem.W.mg_of X G c_MOST_HEIGHT), t_MOST_COLUMNS, (PySem.W.mg_of X G c_MOST_COLUMNS)⟩ : Txt K mg)⟩
end K56
open PySem PySem.W PyProof.Rows
set_option maxHeartbeats 0 in
theorem PySem.Challenge.cw_lowcolumns_k56_gaps_between_holds : PySem.Challenge.rw_lowcolumns_k56_gaps_between.Holds := by
  w_on; o_law; k_head; (case hw => w_witness2)
  k_fill
  refine Lc.walkG (l := PySem.Challenge.rw_lowcolumns_k56_gaps_between) (n := 63) (k := 8) (x := "script") (CX := fun _ => L2.CX0) (sp := fun w => K56.spLaw _) rfl (by decide) rfl ⟨rfl, by decide, by decide⟩ (fun w h Y => PySem.W.kIn_of Y) ?F (fun _ _ a ns hl hO hS => ⟨a, ns, rfl, Lc.scr_of hO hS, hl, fun _ => rfl⟩) (fun _ _ _ _ _ h => h)
  case F =>
    intro w mg fa h KX G hmg
    refine' K56.all_mk KX G hmg ?a0 ?l0 ?c0 ?k0 ?a1 ?l1 ?c1 ?k1 ?a2 ?l2 ?c2 ?k2 ?a3 ?l3 ?c3 ?k3 ?a4 ?l4 ?c4 ?k4 ?a5 ?l5 ?c5 ?k5 ?a6 ?l6 ?c6 ?k6 ?a7 ?l7 ?c7 ?k7 ?a8 ?l8 ?c8 ?k8 ?a9 ?l9 ?c9 ?k9 ?a10 ?l10 ?c10 ?k10 ?a11 ?l11 ?c11 ?k11 ?a12 ?l12 ?c12 ?k12 ?a13 ?l13 ?c13 ?k13 ?a14 ?l14 ?c14 ?k14 ?a15 ?l15 ?c15 ?k15 ?z_isinstance ?z_bool ?z_int ?z_len ?z_type ?z_list ?z_all ?z_zip ?z_sorted ?z_max ?z_min ?z_tuple ?z_str ?z_range ?z_repr ?z_enumerate ?c_MOST_HEIGHT ?c_MOST_COLUMNS
    (case a0 => k_is); (case l0 => k_is); (case c0 => k_is); (case k0 => k_is); (case a1 => k_is); (case l1 => k_is); (case c1 => k_is); (case k1 => k_is); (case a2 => k_is); (case l2 => k_is); (case c2 => k_is); (case k2 => k_is); (case a3 => k_is); (case l3 => k_is); (case c3 => k_is); (case k3 => k_is); (case a4 => k_is); (case l4 => k_is); (case c4 => k_is); (case k4 => k_is); (case a5 => k_is); (case l5 => k_is); (case c5 => k_is); (case k5 => k_is); (case a6 => k_is); (case l6 => k_is); (case c6 => k_is); (case k6 => k_is); (case a7 => k_is); (case l7 => k_is); (case c7 => k_is); (case k7 => k_is); (case a8 => k_is); (case l8 => k_is); (case c8 => k_is); (case k8 => k_is); (case a9 => k_is); (case l9 => k_is); (case c9 => k_is); (case k9 => k_is); (case a10 => k_is); (case l10 => k_is); (case c10 => k_is); (case k10 => k_is); (case a11 => k_is); (case l11 => k_is); (case c11 => k_is); (case k11 => k_is); (case a12 => k_is); (case l12 => k_is); (case c12 => k_is); (case k12 => k_is); (case a13 => k_is); (case l13 => k_is); (case c13 => k_is); (case k13 => k_is); (case a14 => k_is); (case l14 => k_is); (case c14 => k_is); (case k14 => k_is); (case a15 => k_is); (case l15 => k_is); (case c15 => k_is); (case k15 => k_is); (case z_isinstance => k_is); (case z_bool => k_is); (case z_int => k_is); (case z_len => k_is); (case z_type => k_is); (case z_list => k_is); (case z_all => k_is); (case z_zip => k_is); (case z_sorted => k_is); (case z_max => k_is); (case z_min => k_is); (case z_tuple => k_is); (case z_str => k_is); (case z_range => k_is); (case z_repr => k_is); (case z_enumerate => k_is); (case c_MOST_HEIGHT => k_is); (case c_MOST_COLUMNS => k_is)

