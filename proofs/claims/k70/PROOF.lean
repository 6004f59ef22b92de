import PyProof.Rows.All
import Wide.All
import OpenK.AllK
import Wide.FinOn
import HandS.ForMost
import HandS.SortInts
import HandS.Wide
import HandS.IsInst
import HandS.Style
import HandS.Flow
import HandS.Zip
import KE.KTypeOf
import PyProof.TypeEq
import PyProof.ReprBulk
import PyProof.ReprRoads
import PyProof.Rows.RuleB_pow
import PySem.Challenge.RW_lowcolumns_k70_tops_by_sorted_columns
set_option Elab.async false
set_option linter.all false
set_option maxRecDepth 100000
namespace Lc
open PySem PySem.Spec PyProof.Rows L2

/-! ### defs that call repr: their promise holds where no repr is under way -/
structure FnG (P : Program) (w : World) (K : PySem.W.Frag) (mg : Str → Option Value) (base : Heap)
    (CX : CXT) (k : Nat) (f : Addr) (fd : FuncData) (ps : List Str) (sp : Sp) : Prop where
  arity : ∀ vs H Q E, sp vs H Q E → vs.length = ps.length
  go : ∀ (A : Around) (outer : List Env) (s : Shared) (H : Hp) (args : Args) (us : List Value) (vs : List V) (Q : VK) (E : XK),
    A.guards = some [] → Room k A → Env0 P w K mg base A outer s H → BindsTo s fd args (ps.zip us) →
    Vals vs us → sp vs H Q E →
    codeAny (model P w) A (.call (.ref f) args) (CR CX outer P w H s Q E) s

theorem FnG.of {P : Program} {w : World} {K : PySem.W.Frag} {mg : Str → Option Value} {base : Heap} {CX : CXT} {k : Nat}
    {f : Addr} {fd : FuncData} {ps : List Str} {sp : Sp} (F : FnOk P w K mg base CX k f fd ps sp) : FnG P w K mg base CX k f fd ps sp :=
  ⟨F.len, fun A o s H a us vs Q E _ => F.run A o s H a us vs Q E⟩

section
variable {P : Program} {w : World} {K : PySem.W.Frag} {mg : Str → Option Value} {base : Heap} {CX : CXT}
/-- a def by its body, where no repr is under way -/
theorem funG {x qual : Str} {st : Stmt} {f : Addr} {fd : FuncData} {N ps : List Str} {k : Nat} {sp : Sp}
    (F : Fun K x qual st f fd) (S : FnScope N ps (defScope st)) (len : ∀ vs H Q E, sp vs H Q E → vs.length = ps.length)
    (hbody : ∀ (cdv : Value) (A : Around) (outer : List Env) (s : Shared) (H : Hp) (vs : List V) (Q : VK) (E : XK),
      A.guards = some [] → Room k (A.deeper (envOfC qual (defScope st) s.heap.objs.size f cdv)) → sp vs H Q E →
      ∃ t, PSs (cxOf CX P w K mg base N qual (defScope st) f cdv A outer s H E) (defBody st) t ∧
        t { nx := fun _ H' => Q .non H', rt := Q } (start N vs) H) :
    FnG P w K mg base CX (k + 1) f fd ps sp := by
  obtain ⟨oc, od, kV, doc, pm, an, cdv, ct, osl, rfl, lk, hcd⟩ := F.ex
  refine ⟨len, fun A outer s H args us vs Q E hgu hr e0 hb r hsp => ?_⟩
  have hl := len _ _ _ _ hsp
  have up : ∀ b o, base.get? b = some o → s.heap.get? b = some o := fun b o e => (e0.bs b o e).1
  have KX : K.In s.heap := e0.mod.kin.keeps up
  have lim : s.heap.NoLimit := e0.mod.nolimit.keeps up
  refine codeAny_call_function hr.depth (KX _ _ lk) rfl S.co S.gen rfl
    (PySem.W.codeRec_of KX hcd) (hb _ _ _ _ ?_)
  refine wpAny_newFunctionEnv_cells S.kind (fun y hy => ?_) fun env he s1 x => ?_
  · have hm := (List.of_mem_zip (show (y.1, y.2) ∈ ps.zip us from hy)).1
    cases S.par y.1 hm with
    | inl q => exact .inl q
    | inr q => exact .inr ⟨q, PySem.W.cellsFrom_some _ _ _ (.inl q)⟩
  subst he
  refine ⟨lim.keeps x.toInCall.keep, codeAny_func ?_⟩
  obtain ⟨t, ht, hq⟩ := hbody cdv A outer s H vs Q E hgu (hr.deeper _) hsp
  have I := inv_start (CX := CX) (P := P) (w := w) (qual := qual) (E := E) S hr.hd e0 hl r x
  refine wpAny_mono (ht.run [] s1 (start N vs) H _ I hq) (fun fl s' hs => ?_) (fun e s' hs => hs)
  cases fl with
  | ret u => obtain ⟨v, σ', H', J, rv, q⟩ := hs; exact ⟨v, H', J.os, J.bare, J.base, J.hok, rv, q⟩
  | next => obtain ⟨σ', H', J, q⟩ := hs; exact ⟨V.non, H', J.os, J.bare, J.base, J.hok, rfl, q⟩
  | brk => obtain ⟨_, _, _, q⟩ := hs; exact q.elim
  | cont => obtain ⟨_, _, _, q⟩ := hs; exact q.elim
end

/-- the same of a def that lets no exception out -/
theorem funG0 {P : Program} {w : World} {K : PySem.W.Frag} {mg : Str → Option Value} {base : Heap} {x qual : Str} {st : Stmt} {f : Addr} {fd : FuncData} {N ps : List Str} {k : Nat} {sp : Sp}
    (F : Fun K x qual st f fd) (S : FnScope N ps (defScope st)) (len : ∀ vs H Q E, sp vs H Q E → vs.length = ps.length)
    (hbody : ∀ (cdv : Value) (A : Around) (outer : List Env) (s : Shared) (H : Hp) (vs : List V) (Q : VK) (E : XK),
      A.guards = some [] → Room k (A.deeper (envOfC qual (defScope st) s.heap.objs.size f cdv)) → sp vs H Q E →
      ∃ t, PSs (cxOf CX0 P w K mg base N qual (defScope st) f cdv A outer s H E).nox (defBody st) t ∧
        t { nx := fun _ H' => Q .non H', rt := Q } (start N vs) H) : FnG P w K mg base CX0 (k + 1) f fd ps sp :=
  funG F S len fun cdv A outer s H vs Q E hgu hr h => by
    obtain ⟨t, ht, hq⟩ := hbody cdv A outer s H vs Q E hgu hr h
    exact ⟨t, ht.nox, hq⟩
section
variable {X : Cx} {CX : CXT} {k : Nat} {f : Addr} {fd : FuncData} {ps : List Str} {sp : Sp} {dvs : List V} {ds : List Value} {E : XK}
  {x : Str} {p pos : Pos} {e : Expr} {es : List Expr} {t tk : TA} {ks : List Str} {kws : List Keyword}
  {g : List Value → List Value → List Value} {gV : List V → List V → List V}
theorem afterG {pins : List (Addr × Obj)} {σ : L2.St} {H : Hp} {s : Shared} {Q : VK} (hx : Passes CX X E) (I : Inv X pins σ H s) {args : Args}
    (h : codeAny (model X.prog X.w) X.A (.call (.ref f) args) (CR CX X.stack X.prog X.w H s Q E) s) :
    wpAny (model X.prog X.w) X.A (call (.ref f) args.pos args.kw) (EP X pins σ Q) X.xe s := by
  refine wpAny_call (codeAny_mono h fun r s' hq => ?_)
  cases r with
  | error e => exact hx pins σ H s e s' I hq
  | ok fl => cases fl with
    | ret u => exact I.after hq
    | next => exact hq.elim
    | brk => exact hq.elim
    | cont => exact hq.elim
/-- f(e, ..) of such a def -/
theorem pe_callG (F : FnG X.prog X.w X.K X.mg X.base CX k f fd ps sp) (hgu : X.A.guards = some []) (hr : Room k X.A)
    (hg : Gl X x) (hm : X.mg x = some (.ref f)) (hk : PySem.W.keepIn X.K (.ref f) = true) (hb : Binds X.K fd ps ds)
    (hd : Vals dvs ds) (hx : Passes CX X E) (ha : PA X (e :: es) t)
    (hdb : (x == ("__debug__" : Str)) = false := by decide)
    (he : starEach (e :: es) X.env = (false, eval e X.env) :: starEach es X.env := by rfl)
    (hpl : (backTo pos (starEach es X.env)).any (·.1) = false := by rfl) :
    PE X (.Call (.Name x p) (e :: es) [] pos) (tCall sp dvs E t) := by
  refine ⟨fun pins s σ H Q I h => wpAny_Call_Name_kw (ld_glob I hg hm ?_ hdb)⟩
  refine PySem.W.callWith_K (h₀ := X.base) I.ok.mod.kin hk
    (thn (ha.run pos pins s σ H _ I h) fun us s1 ⟨vs, H1, I1, r, q⟩ => ⟨I1.kIn, ?_⟩) he hpl
  have r2 : Vals (vs ++ dvs) (us ++ ds) := r.append hd
  have hl : (us ++ ds).length = ps.length := r2.length.symm.trans (F.arity _ _ _ _ q)
  exact afterG hx I1 (F.go X.A X.stack s1 H1 ⟨us, []⟩ (us ++ ds) (vs ++ dvs) Q E hgu hr I1.env0 (hb s1 us I1.kIn hl) r2 q)
/-- f(k = v, ..), every argument by its name -/
theorem pe_callK0 (F : FnOk X.prog X.w X.K X.mg X.base CX k f fd ps sp) (hr : Room k X.A) (hg : Gl X x)
    (hm : X.mg x = some (.ref f)) (hk : PySem.W.keepIn X.K (.ref f) = true) (hb : KBinds X.K fd ps ks g gV) (hx : Passes CX X E)
    (hkw : PK X kws tk) (hall : (backToKw pos (keywordEach kws X.env)).all (·.1.isSome) = true := by rfl)
    (hks : (backToKw pos (keywordEach kws X.env)).filterMap (·.1) = ks := by rfl)
    (hdb : (x == ("__debug__" : Str)) = false := by decide)
    (hpl : ((backTo pos (starEach [] X.env)).any (·.1) || (backToKw pos (keywordEach kws X.env)).any (·.1.isNone)) = false := by rfl) :
    PE X (.Call (.Name x p) [] kws pos) (tCallK sp gV E tNil tk) := by
  refine ⟨fun pins s σ H Q I h => wpAny_Call_Name_kw (ld_glob I hg hm ?_ hdb)⟩
  refine PySem.W.callWith_KW0 (first := []) (h₀ := X.base) I.ok.mod.kin hk hall
    (thn (hkw.run pos pins s σ H _ I h) fun ws s1 ⟨zs, H1, I1, rz, q⟩ => ⟨I1.kIn, ?_⟩) hpl
  rw [hks]
  exact run_fnk (us := []) (vs := []) F hr hb hx I1 .nil rz q
end

/-! ### repr of data -/
/-- data whose repr is known and short: ints of at most 100 signs -/
structure Nice (d : PyData) : Prop where
  sh : d.showable = true
  nd : d.hasDict = false
  dp : d.depth ≤ 40
  lf : d.leavesShort 100 = true
  bk : d.bulk ≤ 100000
def rReprD (K : PySem.W.Frag) : List V → Hp → VK → Prop := fun xs H Q => ∃ a d, xs = [V.ref a] ∧ Dp K H (.ref a) d ∧ Nice d ∧ Q (.str d.shown) H
theorem call_repr_D {X : Cx} (hg : X.A.guards = some []) (hu : X.A.units + 64 < cLine) : CallR X (.builtin "repr") (rReprD X.K) := by
  intro pins s σ H xs us Q I r h
  obtain ⟨a, d, rfl, hd, n, q⟩ := h
  obtain ⟨u, rfl, ru⟩ := vals1 r
  obtain rfl : u = Value.ref a := ru
  obtain ⟨as, rd⟩ := Dp.reads I d (.ref a) (.ref a) hd rfl
  refine repr_of_reads' rd n.sh (PyData.noDict_hsm n.nd) hg (by have := n.dp; omega) (fun _ _ e => e) (fun h' v tk hk => ?_) ?_
  · exact ⟨.str d.shown, H, I.kept hk, ⟨_, rfl⟩, q⟩
  · have := PyData.shown_le_bulk 100 (by decide) d n.lf
    have := n.bk
    rw [sizeLine_eq]
    omega

/-! ### type(x), == of two built-in types -/
def rTypeX (K : PySem.W.Frag) : List V → Hp → VK → Prop := fun xs H Q => ∃ x T, xs = [x] ∧ TyX K H x (.type T) ∧ Q (.ty T) H
theorem call_type_list {X : Cx} : CallR X (.type "type") (fun xs H Q => ∃ a ys, xs = [V.ref a] ∧ SqL X.K H a ys ∧ Q (.ty "list") H) := by
  intro pins s σ H xs us Q I r h
  obtain ⟨a, ys, rfl, hs, q⟩ := h
  obtain ⟨u, rfl, ru⟩ := vals1 r
  obtain rfl : u = Value.ref a := ru
  obtain ⟨its, rv, pl, hz⟩ := I.list hs
  have ty : s.TypeIs (.ref a) "list" := pl.isList.typeIs
  exact PySem.call_type_of ty (by decide +kernel) ⟨.ty "list", H, I, rfl, q⟩
/-- == of the class list and the class list -/
def rEqTy : R2 := fun x y H Q => x = V.ty "list" ∧ y = V.ty "list" ∧ Q (V.bl true) H
theorem op_eqTy {X : Cx} : OpR X (compareOp .Eq) rEqTy := by
  intro pins s σ H x y v u Q I rx ry h
  obtain ⟨e1, e2, q⟩ := h
  subst e1
  subst e2
  have e3 : v = Value.type "list" := rx
  have e4 : u = Value.type "list" := ry
  subst e3
  subst e4
  have fin : EP X pins σ Q (Value.bool true) s := ⟨.bl true, H, I, rfl, q⟩
  exact PySem.TypeEq.eq_type_same (X := "list") PySem.TypeEq.meta_list fin
def CPowW (i j : Int) : Prop := 0 ≤ j ∧ (Builtin.Int.intBits i : Int) * j ≤ 2 ^ 27
theorem op_powW {X : Cx} : OpR X (binaryOp .Pow) (rI CPowW fun i j => .int (i ^ j.toNat)) := opI fun _ _ _ _ _ _ _ hc q => PyProof.Rows.pow_int hc.1 hc.2 q
theorem fdivW {i j : Int} (h0 : 0 < j) (h : j ≤ 100000000000000000000000000000000) : CDivW i j := by
  refine wide_div (b := 130) h0 ?_ (by decide) (by decide)
  have e : (2 : Nat) ^ 130 = 1361129467683753853853498429727072845824 := by decide +kernel
  rw [e]
  omega

/-- len(x) in a comprehension's block: the reading by K -/
def rLenK (K : PySem.W.Frag) : List V → Hp → VK → Prop := fun xs H Q => ∃ p ys, xs = [V.ref p] ∧ (SqL K H p ys ∨ SqT K H p ys) ∧ Q (.int (ys.length : Nat)) H

/-! ### heaps -/
/-- all that was tracked, but what stands at a, is as it was -/
def But (a : Addr) (H H' : Hp) : Prop := ∀ b o, b ≠ a → H b = some o → H' b = some o
theorem But.of {a : Addr} {H H' : Hp} (h : Same H H') : But a H H' := fun b o _ e => h b o e
theorem But.refl (a : Addr) (H : Hp) : But a H H := fun _ _ _ e => e
theorem But.trans {a : Addr} {H H1 H2 : Hp} (x : But a H H1) (y : But a H1 H2) : But a H H2 := fun b o n e => y b o n (x b o n e)
theorem But.upd (a : Addr) (H : Hp) (o : HO) : But a H (upd H a o) := fun b u n e => by rw [upd_ne n]; exact e
theorem same_new {H : Hp} {p : Addr} (o : HO) (h : H p = none) : Same H (upd H p o) := fun b x e => by
  rw [upd_ne (ne_of_none e h)]; exact e
theorem But.new {a : Addr} {H H1 : Hp} {p : Addr} (o : HO) (x : But a H H1) (h : H1 p = none) : But a H (L2.upd H1 p o) := x.trans (But.of (same_new o h))
/-- what was new and is changed: all else is as it was -/
theorem same_but {H H1 H2 : Hp} {p : Addr} (s : Same H H1) (n : H p = none) (b : But p H1 H2) : Same H H2 := fun c o e =>
  b c o (ne_of_none e n) (s c o e)
/-- a list that is read, at another place than a -/
def Oth (K : PySem.W.Frag) (a : Addr) (H : Hp) (l : Addr) (xs : List V) : Prop := SqL K H l xs ∧ (l ≠ a ∨ H l = none)
theorem But.seq {K : PySem.W.Frag} {a l : Addr} {H H' : Hp} {xs : List V} (b : But a H H') (h : SqL K H l xs) (n : l ≠ a) : SqL K H' l xs := by
  rcases h with (h | ⟨o, h⟩) | h
  · exact .inl (.inl (b _ _ n h))
  · exact .inl (.inr ⟨o, b _ _ n h⟩)
  · exact .inr h
/-- the script: locked, or of the module -/
def Scr (K : PySem.W.Frag) (H : Hp) (a : Addr) (xs : List V) : Prop := (∃ o, H a = some (.frz o (.lst xs))) ∨ ∀ H', SqL K H' a xs
theorem Scr.sq {K : PySem.W.Frag} {H : Hp} {a : Addr} {xs : List V} (h : Scr K H a xs) : SqL K H a xs := by
  rcases h with ⟨o, h⟩ | h
  · exact .inl (.inr ⟨o, h⟩)
  · exact h H
theorem scr_of {K : PySem.W.Frag} {H : Hp} {a : Addr} {xs : List V} (hO : Only H) (h : SqL K H a xs) : Scr K H a xs := by
  rcases h with (h | ⟨o, h⟩) | h
  · rcases hO a with z | ⟨o, ys, z⟩ <;> (rw [h] at z; cases z)
  · exact .inl ⟨o, h⟩
  · exact .inr fun _ => .inr h
theorem Scr.same {K : PySem.W.Frag} {H H' : Hp} {a : Addr} {xs : List V} (h : Scr K H a xs) (s : Same H H') : Scr K H' a xs := by
  rcases h with ⟨o, h⟩ | h
  · exact .inl ⟨o, s _ _ h⟩
  · exact .inr h
theorem Scr.but {K : PySem.W.Frag} {H H' : Hp} {a p : Addr} {xs : List V} (h : Scr K H a xs) (n : ∀ o u, H p ≠ some (.frz o u)) (b : But p H H') : Scr K H' a xs := by
  rcases h with ⟨o, h⟩ | h
  · exact .inl ⟨o, b _ _ (fun e => n _ _ (e ▸ h)) h⟩
  · exact .inr h

/-! ### loops in the shape that our promises have -/
theorem ite_t {c A B : Prop} [Decidable c] (hc : c) (h : A) : if c then A else B := by rw [if_pos hc]; exact h
theorem ite_f {c A B : Prop} [Decidable c] (hc : ¬ c) (h : B) : if c then A else B := by rw [if_neg hc]; exact h
theorem same_set {H H1 : Hp} {p : Addr} {o : HO} (s : Same H H1) (n : H p = none) : Same H (upd H1 p o) := fun b u e => by
  rw [upd_ne (ne_of_none e n)]
  exact s b u e
theorem same_lay {H H1 : Hp} {p : Addr} {o : HO} (s : Same H H1) (n : H1 p = none) : Same H (upd H1 p o) := same_set s (s.free n)
theorem take_map_succ {α β : Type} (f : α → β) {xs : List α} {i : Nat} {x : α} (h : xs[i]? = some x) : (xs.take i).map f ++ [f x] = (xs.take (i + 1)).map f := by
  rw [List.take_add_one, h, List.map_append]
  rfl
theorem get_map {α β : Type} {f : α → β} {xs : List α} {i : Nat} {y : β} (h : (xs.map f)[i]? = some y) : ∃ x, xs[i]? = some x ∧ y = f x := by
  rw [List.getElem?_map] at h
  cases e : xs[i]? with
  | none => rw [e] at h; cases h
  | some x => rw [e] at h; exact ⟨x, rfl, (Option.some.inj h).symm⟩
theorem get_lt {α : Type} {xs : List α} {i : Nat} {x : α} (h : xs[i]? = some x) : i < xs.length := (List.getElem?_eq_some_iff.mp h).1
theorem small_of {n m : Nat} (h : n ≤ m) (hm : m ≤ 100000) : n < sizeLine := by rw [sizeLine_eq]; omega
theorem small_le {n m : Nat} (h : n ≤ m) (hm : m ≤ 100000) : n ≤ sizeLine := by rw [sizeLine_eq]; omega
/-- ints of a list within bounds -/
def within (lo hi : Int) (ns : List Int) : Bool := ns.all fun n => decide (lo ≤ n ∧ n ≤ hi)
theorem bits_le {x : Int} {b : Nat} (h : x.natAbs < 2 ^ b) (hb : 0 < b) : Builtin.Int.intBits x ≤ b := by
  have l := PySem.Flt.log2_lt_of hb h
  unfold Builtin.Int.intBits
  split <;> omega

/-! ### the end of a law's row, where the law calls repr -/
theorem nil_no {α : Type} {b : α} (h : b ∈ ([] : List α)) {p : Prop} : p := by cases h
theorem lawG {P : Program} {w : World} {K : PySem.W.Frag} {mg mb : Str → Option Value} {CX : CXT} {k : Nat} {fa a : Addr} {fd : FuncData} {x : Str} {sp : Sp} {s₁ : Shared} {vs : List Value} {ns : List Int}
    (KX : K.In s₁.heap) (hns : s₁.heap.Ns mainGlobals mg) (hb : s₁.heap.Ns builtinsNs mb) (hbb : ∀ x : Str, x ≠ "__name__" → mb x = bootBuiltins x)
    (hlim : s₁.heap.NoLimit) (hg : s₁.gens = #[]) (ha : s₁.heap.get? a = some { cls := .type "list", data := .seq vs.toArray })
    (hi : IntsAre vs ns) (hl : ns.length ≤ sizeLine) (hr : Room k callerA)
    (F : ∀ base : Heap, K.In base → base.Ns mainGlobals mg → FnG P w K mg base CX k fa fd [x] sp)
    (hbind : ∀ (s : Shared) (u : Value), BindsTo s fd ⟨[u], []⟩ [(x, u)])
    (hsp : ∀ H : Hp, Only H → SqL K H a (ns.map V.int) → sp [.ref a] H (fun v _ => v = .bl true) fun _ _ _ => False)
    (hCX : ∀ H e s', CX [] H s₁ (fun _ _ _ => False) e s' → False) :
    codeAny (model P w) callerA (.call (.ref fa) ⟨[.ref a], []⟩)
      (fun r s' => r = .ok (.ret (.bool true)) ∧ OldK s₁.heap s'.heap ∧ s'.os = s₁.os ∧ AllBare s'.gens) s₁ := by
  have rv := vals_ints hi
  have lenV := hi.length
  /- H: what is tracked at the entry, the script at most -/
  have core : ∀ H : Hp, Only H → SqL K H a (ns.map V.int) → HOk P w H s₁.heap → (∀ b, H b ≠ none → b = a) →
      (H a ≠ none → K.lookup a = none) →
      codeAny (model P w) callerA (.call (.ref fa) ⟨[.ref a], []⟩)
        (fun r s' => r = .ok (.ret (.bool true)) ∧ OldK s₁.heap s'.heap ∧ s'.os = s₁.os ∧ AllBare s'.gens) s₁ := by
    intro H hO hS ok hA hK
    have onlyA : ∀ {b : Addr}, (b = a → False) → H b = none := fun {b} hn => by
      cases q : H b with
      | none => rfl
      | some u => exact (hn (hA b (by rw [q]; exact fun z => nomatch z))).elim
    have nsK : ∀ {b : Addr} {m : Str → Option Value}, s₁.heap.Ns b m → (hidT s₁.heap H).Ns b m := by
      rintro b m ⟨o, es, ep, e, d, r⟩
      refine ⟨o, es, ep, hidT_get e (onlyA fun z => ?_), d, r⟩
      subst z
      rw [ha] at e
      cases e
      exact nomatch d
    have hKb : K.In (hidT s₁.heap H) := fun b o e => by
      refine hidT_get (KX b o e) ?_
      cases q : H b with
      | none => rfl
      | some u =>
        have e' : b = a := hA b (by rw [q]; exact fun z => nomatch z)
        subst e'
        rw [hK (by rw [q]; exact fun z => nomatch z)] at e
        cases e
    obtain ⟨mc, h1, h2⟩ := hlim
    have hM : Mod K mg (hidT s₁.heap H) := ⟨hKb, nsK hns, ⟨mb, nsK hb, hbb⟩, ⟨mc, nsK h1, h2⟩⟩
    have e0 : Env0 P w K mg (hidT s₁.heap H) callerA [] s₁ H :=
      ⟨rfl, hM, fun b o e => of_hidT e, Nat.le_of_eq (hidT_size _ _), trivial, (fun b z => nil_no z), ok, AllBare.of_eq hg⟩
    have run := (F _ hKb (nsK hns)).go callerA [] s₁ H ⟨[.ref a], []⟩ [.ref a] [.ref a] _ _ rfl hr e0 (hbind s₁ (.ref a)) (.cons rfl .nil) (hsp H hO hS)
    refine codeAny_mono run fun r s' h => ?_
    match r, h with
    | .error e, h => exact (hCX H e s' h).elim
    | .ok .next, h => exact h.elim
    | .ok .brk, h => exact h.elim
    | .ok .cont, h => exact h.elim
    | .ok (.ret u), h =>
      obtain ⟨v, H', os, bare, un, hok', r', q⟩ := h
      obtain rfl : v = .bl true := q
      obtain rfl : u = Value.bool true := r'
      refine ⟨rfl, OldK.of_keep fun b o e => ?_, os, bare⟩
      rcases hO b with z | ⟨ob, xs, z⟩
      · exact un.keep b o e z (fun y => nil_no y) (fun y => nil_no y)
      · have e1 := (ok b _ z).1
        have e2 := (hok' b _ (un.frzs b ob _ z)).1
        rw [e] at e1
        cases e1
        exact e2
  cases hk : K.lookup a with
  | some o =>
    have e := KX a o hk
    rw [ha] at e
    cases e
    refine core (fun _ => none) (fun _ => .inl rfl) (.inr ⟨_, vs.toArray, _, hk, rfl, rfl, rfl, ?_, by simpa using rv⟩) ?_ (fun b z => absurd rfl z) (fun z => absurd rfl z)
    · rw [List.size_toArray, lenV]
      exact hl
    · intro b u z
      exact nomatch (show (none : Option HO) = some u from z)
  | none =>
    have at_ : ∀ b u, (if b = a then some (HO.frz { cls := .type "list", data := .seq vs.toArray } (.lst (ns.map V.int))) else none) = some u → b = a ∧ u = HO.frz { cls := .type "list", data := .seq vs.toArray } (.lst (ns.map V.int)) := fun b u z => by
      by_cases hb : b = a
      · rw [if_pos hb] at z
        exact ⟨hb, (Option.some.inj z).symm⟩
      · rw [if_neg hb] at z
        cases z
    refine core (fun b => if b = a then some (HO.frz { cls := .type "list", data := .seq vs.toArray } (.lst (ns.map V.int))) else none) (fun b => ?_) (.inl (.inr ⟨{ cls := .type "list", data := .seq vs.toArray }, if_pos rfl⟩)) (fun b u z => ?_) (fun b z => ?_) fun _ => hk
    · by_cases hb : b = a
      · exact .inr ⟨_, _, if_pos hb⟩
      · exact .inl (if_neg hb)
    · obtain ⟨hb, rfl⟩ := at_ b u z
      subst hb
      exact ⟨ha, by rw [List.length_map]; exact hl, vs, _, rv, ha⟩
    · by_cases hb : b = a
      · exact hb
      · exact absurd (if_neg hb) z
/-- the goal that the head leaves, from such a promise of the law's def -/
theorem walkG {l : PySem.W.OpenLaw} {n k : Nat} {q : Program} {loose : List Str} {XP : (Str → Option Value) → Heap → Prop} {YP : World → Heap → Prop} {d : DefRec} {K : Params → PySem.W.Frag} {CX : World → CXT} {sp : World → Sp} {x : Str}
    (hn : l.most = some n) (hn2 : n ≤ sizeLine) (hdf : d.params.defaults = []) (hr : Room k callerA) (hY : ∀ (w : World) (h : Heap), YP w h → (K w.params).In h)
    (F : ∀ (w : World) (mg : Str → Option Value) (fa : Addr) (h : Heap), (K w.params).In h → h.Ns mainGlobals mg → mg d.name = some (.ref fa) →
      ∃ fd : FuncData, (∀ (s : Shared) (u : Value), BindsTo s fd ⟨[u], []⟩ [(x, u)]) ∧ ∀ base : Heap, (K w.params).In base → base.Ns mainGlobals mg → FnG l.prog w (K w.params) mg base (CX w) k fa fd [x] (sp w))
    (hsp : ∀ (w : World) (H : Hp) (a : Addr) (ns : List Int), ns.length ≤ n → Only H → SqL (K w.params) H a (ns.map V.int) → sp w [.ref a] H (fun v _ => v = .bl true) fun _ _ _ => False)
    (hCX : ∀ (w : World) (H : Hp) (s : Shared) (e : Value) (s' : Shared), CX w [] H s (fun _ _ _ => False) e s' → False) :
    PySem.W.WalkO q loose XP YP l.row.toRowW d [] (fun f vs => PySem.call f vs) := by
  refine Att.attach_call hn hdf fun w s₀ s₁ mg mb fa o pm cd doc a vs ns G Y ho hd hcd hmg hobj hints hlen hg => ?_
  have KX := hY w _ Y
  obtain ⟨fd, hb, hF⟩ := F w mg fa _ KX G.T.g hmg
  exact lawG KX G.T.g G.T.b G.T.builtins G.T.nolimit hg hobj hints (Nat.le_trans hlen hn2) hr hF hb (fun H hO hS => hsp w H a ns hlen hO hS) (fun H e s' => hCX w H s₁ e s')
end Lc

/-! the mathematics of layouts: plain Lean -/
namespace Lc
/-- the first place of m -/
def ix (m : Int) : List Int → Nat
  | [] => 0
  | x :: xs => if x = m then 0 else ix m xs + 1
theorem ix_get {m : Int} : ∀ {cs : List Int}, m ∈ cs → cs[ix m cs]? = some m
  | [], h => by cases h
  | x :: xs, h => by
    unfold ix
    by_cases e : x = m
    · rw [if_pos e, e]; rfl
    · rw [if_neg e, List.getElem?_cons_succ]
      exact ix_get ((List.mem_cons.mp h).resolve_left fun z => e z.symm)
theorem ix_first {m : Int} : ∀ {cs : List Int} {k : Nat} {z : Int}, k < ix m cs → cs[k]? = some z → z ≠ m
  | [], k, z, h, e => by cases e
  | x :: xs, k, z, h, e => by
    unfold ix at h
    by_cases q : x = m
    · rw [if_pos q] at h; omega
    · rw [if_neg q] at h
      cases k with
      | zero => exact fun r => q ((Option.some.inj e).trans r)
      | succ k => exact ix_first (m := m) (cs := xs) (k := k) (by omega) (by simpa using e)
/-- the least item -/
def mn : List Int → Int
  | [] => 0
  | [x] => x
  | x :: y :: r => if x ≤ mn (y :: r) then x else mn (y :: r)
theorem mn_spec : ∀ {cs : List Int}, cs ≠ [] → mn cs ∈ cs ∧ ∀ y ∈ cs, mn cs ≤ y
  | [], h => absurd rfl h
  | [x], _ => ⟨List.mem_singleton.mpr rfl, fun y hy => by rw [List.mem_singleton.mp hy]; exact Int.le_refl _⟩
  | x :: y :: r, _ => by
    have ih := mn_spec (cs := y :: r) (by simp)
    show (if x ≤ mn (y :: r) then x else mn (y :: r)) ∈ _ ∧ ∀ z ∈ x :: y :: r, (if x ≤ mn (y :: r) then x else mn (y :: r)) ≤ z
    by_cases h : x ≤ mn (y :: r)
    · rw [if_pos h]
      refine ⟨List.mem_cons_self, fun z hz => ?_⟩
      rcases List.mem_cons.mp hz with rfl | hz
      · exact Int.le_refl _
      · exact Int.le_trans h (ih.2 z hz)
    · rw [if_neg h]
      refine ⟨List.mem_cons_of_mem _ ih.1, fun z hz => ?_⟩
      rcases List.mem_cons.mp hz with rfl | hz
      · omega
      · exact ih.2 z hz
theorem mn_eq {cs : List Int} {m : Int} (h : m ∈ cs) (h2 : ∀ y ∈ cs, m ≤ y) : mn cs = m := by
  have hn : cs ≠ [] := fun e => by rw [e] at h; cases h
  have s := mn_spec hn
  exact Int.le_antisymm (s.2 m h) (h2 _ s.1)
/-- the left one, or the right one, of the lowest columns -/
def low (r : Bool) (cs : List Int) : Nat := if r = true then cs.length - 1 - ix (mn cs) cs.reverse else ix (mn cs) cs
theorem low_get {r : Bool} {cs : List Int} (h : cs ≠ []) : cs[low r cs]? = some (mn cs) := by
  have s := (mn_spec h).1
  unfold low
  cases r with
  | false => rw [if_neg (by simp)]; exact ix_get s
  | true =>
    rw [if_pos rfl]
    have g := ix_get (cs := cs.reverse) (List.mem_reverse.mpr s)
    have l := (List.getElem?_eq_some_iff.mp g).1
    rw [List.getElem?_reverse (by simpa using l)] at g
    exact g
theorem low_lt {r : Bool} {cs : List Int} (h : cs ≠ []) : low r cs < cs.length := (List.getElem?_eq_some_iff.mp (low_get h)).1
/-- one card -/
def put (r : Bool) (s : List (Nat × Int) × List Int) (h : Int) : List (Nat × Int) × List Int :=
  (s.1 ++ [(low r s.2, mn s.2)], s.2.set (low r s.2) (mn s.2 + h))
/-- the places (column, top) of the cards, the columns behind them -/
def play (r : Bool) (cs hs : List Int) : List (Nat × Int) × List Int := hs.foldl (put r) ([], cs)
theorem play_snoc (r : Bool) (cs hs : List Int) (h : Int) : play r cs (hs ++ [h]) = put r (play r cs hs) h := by
  unfold play
  rw [List.foldl_append]
  rfl
theorem play_take {r : Bool} {cs hs : List Int} {i : Nat} {h : Int} (e : hs[i]? = some h) : play r cs (hs.take (i + 1)) = put r (play r cs (hs.take i)) h := by
  rw [List.take_add_one, e]
  exact play_snoc r cs _ h
theorem fold_len2 (r : Bool) : ∀ (hs : List Int) (s : List (Nat × Int) × List Int), (hs.foldl (put r) s).2.length = s.2.length ∧ (hs.foldl (put r) s).1.length = s.1.length + hs.length
  | [], s => ⟨rfl, rfl⟩
  | h :: hs, s => by
    have q := fold_len2 r hs (put r s h)
    refine ⟨q.1.trans (List.length_set ..), q.2.trans ?_⟩
    show (s.1 ++ [_]).length + hs.length = s.1.length + (hs.length + 1)
    rw [List.length_append]
    simp only [List.length_cons, List.length_nil]
    omega
theorem play_cols (r : Bool) (cs hs : List Int) : (play r cs hs).2.length = cs.length := (fold_len2 r hs _).1
theorem play_len (r : Bool) (cs hs : List Int) : (play r cs hs).1.length = hs.length := by
  have := (fold_len2 r hs ([], cs)).2
  simpa [play] using this
theorem ixN_nat {n j : Nat} (h : j < n) : L2.ixN n (j : Int) = some j := by
  unfold L2.ixN
  rw [if_pos (by omega), if_pos (by omega)]
  rfl
theorem play_append (r : Bool) (cs xs ys : List Int) : play r cs (xs ++ ys) = ys.foldl (put r) (play r cs xs) := List.foldl_append ..
theorem fold_pre (r : Bool) : ∀ (hs : List Int) (s : List (Nat × Int) × List Int), ∃ t, (hs.foldl (put r) s).1 = s.1 ++ t
  | [], s => ⟨[], (List.append_nil _).symm⟩
  | h :: hs, s => by
    obtain ⟨t, e⟩ := fold_pre r hs (put r s h)
    refine ⟨(low r s.2, mn s.2) :: t, e.trans ?_⟩
    show (s.1 ++ [_]) ++ t = _
    rw [List.append_assoc]
    rfl
/-- the i-th place is found by the first i cards -/
theorem play_at {r : Bool} {cs hs : List Int} {i : Nat} {h : Int} (e : hs[i]? = some h) : (play r cs hs).1[i]? = some (low r (play r cs (hs.take i)).2, mn (play r cs (hs.take i)).2) := by
  have il : i < hs.length := (List.getElem?_eq_some_iff.mp e).1
  have e1 : hs = hs.take (i + 1) ++ hs.drop (i + 1) := (List.take_append_drop _ _).symm
  obtain ⟨t, et⟩ := fold_pre r (hs.drop (i + 1)) (play r cs (hs.take (i + 1)))
  have e2 : (play r cs hs).1 = (play r cs (hs.take (i + 1))).1 ++ t := by
    conv => lhs; rw [e1, play_append]
    exact et
  have l1 : (play r cs (hs.take i)).1.length = i := by
    have := (fold_len2 r (hs.take i) ([], cs)).2
    simp only [play] at this ⊢
    rw [this, List.length_take]
    simp only [List.length_nil]
    omega
  rw [e2, play_take e]
  show ((play r cs (hs.take i)).1 ++ [_] ++ t)[i]? = _
  rw [List.append_assoc, List.getElem?_append_right (by omega), l1, Nat.sub_self]
  rfl
/-- the tops, the end -/
def tops (cs hs : List Int) : List Int := (play false cs hs).1.map (·.2)
def ends (cs hs : List Int) : List Int := (play false cs hs).2
theorem tops_len (cs hs : List Int) : (tops cs hs).length = hs.length := by
  unfold tops
  rw [List.length_map, play_len]
theorem play_ne {r : Bool} {cs hs : List Int} (h : cs ≠ []) : (play r cs hs).2 ≠ [] := fun e => h (List.length_eq_zero_iff.mp (by rw [← play_cols r cs hs, e]; rfl))
end Lc

namespace Lc
open PySem PySem.Spec PyProof.Rows L2
/-- data of depth at most k and N items at most, ints of at most 90 digits -/
structure Nc (k N : Nat) (d : PyData) : Prop where
  sh : d.showable = true
  cl : d.canLay0 = true
  dp : d.depth ≤ k
  lf : d.leavesShort 100 = true
  bk : d.bulk ≤ N
theorem nc_int {i : Int} (h : i.natAbs < 10 ^ 90) : Nc 0 0 (.int i) := by
  refine ⟨?_, rfl, Nat.le_refl _, ?_, Nat.le_refl _⟩
  · show decide (i.natAbs.log2 < 1920) = true
    have e : (10 : Nat) ^ 90 ≤ 2 ^ 1000 := by decide +kernel
    exact decide_eq_true (Nat.lt_trans (PySem.Flt.log2_lt_of (by decide) (Nat.lt_of_lt_of_le h e)) (by decide))
  · simp only [PyData.leavesShort, decide_eq_true_eq]
    have := int_text_length_le10 (a := i) (k := 90) (by decide) h
    show (Str.ofString (toString i)).length ≤ 100
    rw [PySem.ofString_length]
    omega
theorem nc_all {k N : Nat} : ∀ {ds : List PyData}, (∀ d ∈ ds, Nc k N d) → PyData.showableAll ds = true ∧ PyData.canLayAll0 ds = true ∧ PyData.depthAll ds ≤ k ∧ PyData.leavesShortAll 100 ds = true ∧ PyData.bulkAll ds ≤ ds.length * (N + 1)
  | [], _ => ⟨rfl, rfl, Nat.zero_le _, rfl, Nat.zero_le _⟩
  | d :: ds, h => by
    have h1 := h d List.mem_cons_self
    obtain ⟨a, b, c, e, f⟩ := nc_all fun x hx => h x (List.mem_cons_of_mem d hx)
    refine ⟨?_, ?_, ?_, ?_, ?_⟩
    · simp only [PyData.showableAll, h1.sh, a, Bool.and_self]
    · simp only [PyData.canLayAll0, h1.cl, b, Bool.and_self]
    · simp only [PyData.depthAll]
      exact Nat.max_le.mpr ⟨h1.dp, c⟩
    · simp only [PyData.leavesShortAll, h1.lf, e, Bool.and_self]
    · simp only [PyData.bulkAll, List.length_cons]
      have := h1.bk
      rw [Nat.add_mul]
      omega
theorem nc_list {k N : Nat} {ds : List PyData} (h : ∀ d ∈ ds, Nc k N d) : Nc (k + 1) (ds.length * (N + 1)) (.list ds) := by
  obtain ⟨a, b, c, e, f⟩ := nc_all h
  refine ⟨by simpa only [PyData.showable] using a, by simpa only [PyData.canLay0] using b, ?_, by simpa only [PyData.leavesShort] using e, by simpa only [PyData.bulk] using f⟩
  simp only [PyData.depth]
  omega
theorem nc_tup {k N : Nat} {ds : List PyData} (h : ∀ d ∈ ds, Nc k N d) : Nc (k + 1) (ds.length * (N + 1)) (.tuple ds) := by
  obtain ⟨a, b, c, e, f⟩ := nc_all h
  refine ⟨by simpa only [PyData.showable] using a, by simpa only [PyData.canLay0] using b, ?_, by simpa only [PyData.leavesShort] using e, by simpa only [PyData.bulk] using f⟩
  simp only [PyData.depth]
  omega
theorem Nc.mono {k N k' N' : Nat} {d : PyData} (h : Nc k N d) (h1 : k ≤ k') (h2 : N ≤ N') : Nc k' N' d := ⟨h.sh, h.cl, Nat.le_trans h.dp h1, h.lf, Nat.le_trans h.bk h2⟩
theorem Nc.nice {k N : Nat} {d : PyData} (h : Nc k N d) (h1 : k ≤ 40) (h2 : N ≤ 100000) : Nice d :=
  ⟨h.sh, PyData.hasDict_of_canLay d h.cl, Nat.le_trans h.dp h1, h.lf, Nat.le_trans h.bk h2⟩
theorem Nc.shaped {k N : Nat} {d : PyData} (h : Nc k N d) (h1 : k ≤ 40) : SeqAt.shaped d = true := by
  unfold SeqAt.shaped
  rw [h.cl, Bool.true_and]
  exact decide_eq_true (Nat.le_trans h.dp (by omega))
theorem nc_ints {ns : List Int} {N : Nat} (h : ∀ n ∈ ns, n.natAbs < 10 ^ 90) (hl : ns.length ≤ N) : Nc 1 N (.list (ns.map PyData.int)) := by
  have q := nc_list (k := 0) (N := 0) (ds := ns.map PyData.int) fun d hd => by
    obtain ⟨n, hn, rfl⟩ := List.mem_map.mp hd
    exact nc_int (h n hn)
  rw [List.length_map] at q
  exact q.mono (by decide) (by omega)
/-- any list of ints is data that == reads -/
theorem shapedInts (ns : List Int) : SeqAt.shaped (.list (ns.map PyData.int)) = true := by
  have a : ∀ ns : List Int, PyData.canLayAll0 (ns.map PyData.int) = true ∧ PyData.depthAll (ns.map PyData.int) = 0 := fun ns => by
    induction ns with
    | nil => exact ⟨rfl, rfl⟩
    | cons n ns ih => exact ⟨by simp only [List.map_cons, PyData.canLayAll0, PyData.canLay0, ih.1, Bool.and_self], by simp only [List.map_cons, PyData.depthAll, PyData.depth, ih.2]; rfl⟩
  unfold SeqAt.shaped
  simp only [PyData.canLay0, PyData.depth, (a ns).1, (a ns).2]
  decide
theorem dpInts {K : PySem.W.Frag} {H : Hp} : ∀ ns : List Int, DpAll K H (ns.map V.int) (ns.map PyData.int)
  | [] => .nil
  | n :: ns => .cons (.int n) (dpInts ns)
end Lc

namespace Lc
open PySem PySem.Spec PyProof.Rows L2
/-! columns as sorted lists -/
def Sorted (l : List Int) : Prop := l.Pairwise (· ≤ ·)
theorem set_perm : ∀ (ls : List Int) (j : Nat) (v : Int), j < ls.length → (ls.set j v).Perm (v :: ls.eraseIdx j)
  | [], _, _, h => absurd h (by simp)
  | _ :: _, 0, _, _ => List.Perm.refl _
  | x :: ls, j + 1, v, h => by
    have h' : j < ls.length := by simpa using h
    show (x :: ls.set j v).Perm (v :: x :: ls.eraseIdx j)
    exact ((set_perm ls j v h').cons x).trans (List.Perm.swap v x _)
theorem erase_perm : ∀ (ls : List Int) (j : Nat) (x : Int), ls[j]? = some x → (x :: ls.eraseIdx j).Perm ls
  | [], _, _, h => by cases h
  | y :: _, 0, x, h => by cases h; exact List.Perm.refl _
  | y :: ls, j + 1, x, h => by
    have h' : ls[j]? = some x := by simpa using h
    show (x :: y :: ls.eraseIdx j).Perm (y :: ls)
    exact (List.Perm.swap y x _).trans ((erase_perm ls j x h').cons y)
theorem sorted_head {x : Int} {l cs : List Int} (s : Sorted (x :: l)) (p : (x :: l).Perm cs) : mn cs = x :=
  mn_eq (p.subset List.mem_cons_self) fun y hy => by
    rcases List.mem_cons.mp (p.symm.subset hy) with rfl | h
    · exact Int.le_refl _
    · exact (List.pairwise_cons.mp s).1 y h
/-- one card, by the sorted columns -/
theorem put_sorted {r : Bool} {st : List (Nat × Int) × List Int} {x h : Int} {l l' : List Int} (s : Sorted (x :: l)) (p : (x :: l).Perm st.2) (q : l'.Perm ((x + h) :: l)) : l'.Perm (put r st h).2 := by
  have hne : st.2 ≠ [] := fun e => by rw [e] at p; exact absurd p.length_eq (by simp)
  have em := sorted_head s p
  have g := low_get (r := r) hne
  show l'.Perm (st.2.set (low r st.2) (mn st.2 + h))
  rw [em] at g ⊢
  refine q.trans ((List.Perm.cons _ ?_).trans (set_perm _ _ _ (low_lt hne)).symm)
  exact List.Perm.cons_inv (p.trans (erase_perm _ _ _ g).symm)
/-- a height put back at its place -/
theorem sorted_ins {h : Int} {l : List Int} {k : Nat} (s : Sorted l) (hlt : ∀ j z, j < k → l[j]? = some z → z < h) (hge : ∀ z, l[k]? = some z → h ≤ z) : Sorted (l.take k ++ [h] ++ l.drop k) := by
  have s1 : Sorted (l.take k) := s.sublist (List.take_sublist ..)
  have s2 : Sorted (l.drop k) := s.sublist (List.drop_sublist ..)
  have lo : ∀ z ∈ l.take k, z < h := fun z hz => by
    obtain ⟨j, hj, e⟩ := List.getElem_of_mem hz
    have hjk : j < k := by rw [List.length_take] at hj; omega
    refine hlt j z hjk ?_
    have := List.getElem?_eq_getElem hj
    rw [e, List.getElem?_take_of_lt hjk] at this
    exact this
  have hi : ∀ z ∈ l.drop k, h ≤ z := fun z hz => by
    cases e : l.drop k with
    | nil => rw [e] at hz; cases hz
    | cons y ys =>
      have hy : h ≤ y := by
        refine hge y ?_
        have := congrArg (·[0]?) e
        simpa [List.getElem?_drop] using this
      rw [e] at hz s2
      rcases List.mem_cons.mp hz with rfl | hz
      · exact hy
      · exact Int.le_trans hy ((List.pairwise_cons.mp s2).1 z hz)
  refine List.pairwise_append.mpr ⟨List.pairwise_append.mpr ⟨s1, List.pairwise_singleton _ _, fun a ha b hb => ?_⟩, s2, fun a ha b hb => ?_⟩
  · rw [List.mem_singleton.mp hb]
    exact Int.le_of_lt (lo a ha)
  · rcases List.mem_append.mp ha with ha | ha
    · exact Int.le_trans (Int.le_of_lt (lo a ha)) (hi b hb)
    · rw [List.mem_singleton.mp ha]; exact hi b hb
theorem ins_perm (l : List Int) (k : Nat) (h : Int) : (l.take k ++ [h] ++ l.drop k).Perm (h :: l) := by
  have e : (l.take k ++ [h] ++ l.drop k).Perm (h :: (l.take k ++ l.drop k)) := by
    rw [List.append_assoc]
    exact List.perm_middle
  rwa [List.take_append_drop] at e
theorem sorted_uniq : ∀ {a b : List Int}, Sorted a → Sorted b → a.Perm b → a = b
  | [], b, _, _, p => (List.Perm.nil_eq p)
  | x :: a, [], _, _, p => absurd p.length_eq (by simp)
  | x :: a, y :: b, sa, sb, p => by
    have e : y = x := by
      have h1 := sorted_head sa p
      have h2 := sorted_head sb p.symm
      have m1 := (mn_spec (cs := y :: b) (by simp))
      have m2 := (mn_spec (cs := x :: a) (by simp))
      have e1 : mn (x :: a) = mn (y :: b) := mn_eq (p.symm.subset m1.1) fun z hz => m1.2 z (p.subset hz)
      exact h2.symm.trans (e1.trans h1)
    subst e
    rw [sorted_uniq (List.pairwise_cons.mp sa).2 (List.pairwise_cons.mp sb).2 (List.Perm.cons_inv p)]
/-- slices -/
theorem cut_from {xs : List Int} {k : Nat} (h : k ≤ xs.length) : cutV (xs.map V.int) (some (k : Int)) none = (xs.drop k).map V.int := by
  unfold cutV
  rw [HT.sIx_nat, HT.sIx_none, List.length_map, Nat.min_eq_left h, ← List.map_drop, ← List.map_take, List.take_of_length_le (by rw [List.length_drop]; omega)]
theorem cut_to {xs : List Int} {k : Nat} (h : k ≤ xs.length) : cutV (xs.map V.int) none (some (k : Int)) = (xs.take k).map V.int := by
  unfold cutV
  rw [HT.sIx_nat, HT.sIx_none, List.length_map, Nat.min_eq_left h, ← List.map_drop, ← List.map_take]
  rfl
theorem cut_mid {xs : List Int} {i k : Nat} (h : k ≤ xs.length) (h2 : i ≤ k) : cutV (xs.map V.int) (some (i : Int)) (some (k : Int)) = ((xs.drop i).take (k - i)).map V.int := by
  unfold cutV
  rw [HT.sIx_nat, HT.sIx_nat, List.length_map, Nat.min_eq_left h, Nat.min_eq_left (by omega), ← List.map_drop, ← List.map_take]
end Lc

namespace Lc
open PySem PySem.Spec PyProof.Rows L2
theorem mn_perm {a b : List Int} (h : a ≠ []) (p : a.Perm b) : mn a = mn b := by
  have m := mn_spec (cs := b) (fun e => h (by rw [e] at p; exact p.eq_nil))
  exact mn_eq (p.symm.subset m.1) fun y hy => m.2 y (p.subset hy)
theorem put_cols (r : Bool) (s : List (Nat × Int) × List Int) (h : Int) (hne : s.2 ≠ []) : ∃ l, (mn s.2 :: l).Perm s.2 ∧ (put r s h).2.Perm ((mn s.2 + h) :: l) :=
  ⟨s.2.eraseIdx (low r s.2), erase_perm _ _ _ (low_get hne), set_perm _ _ _ (low_lt hne)⟩
theorem put_ne {r : Bool} {s : List (Nat × Int) × List Int} {h : Int} (hne : s.2 ≠ []) : (put r s h).2 ≠ [] := fun e => hne (by
  have : (s.2.set (low r s.2) (mn s.2 + h)).length = 0 := by show ((put r s h).2).length = 0; rw [e]; rfl
  rw [List.length_set] at this
  exact List.length_eq_zero_iff.mp this)
/-- the order of the columns, and the side, change no top and no height at the end -/
theorem fold_perm (r r' : Bool) : ∀ (hs : List Int) (s s' : List (Nat × Int) × List Int), s.2 ≠ [] → s.2.Perm s'.2 → s.1.map (·.2) = s'.1.map (·.2) →
    (hs.foldl (put r) s).1.map (·.2) = (hs.foldl (put r') s').1.map (·.2) ∧ (hs.foldl (put r) s).2.Perm (hs.foldl (put r') s').2
  | [], s, s', _, p, e => ⟨e, p⟩
  | h :: hs, s, s', hne, p, e => by
    have hne' : s'.2 ≠ [] := fun z => hne (by rw [z] at p; exact p.eq_nil)
    have em := mn_perm hne p
    obtain ⟨l, p1, p2⟩ := put_cols r s h hne
    obtain ⟨l', p1', p2'⟩ := put_cols r' s' h hne'
    have pl : l.Perm l' := List.Perm.cons_inv (a := mn s.2) (p1.trans (p.trans (by rw [em]; exact p1'.symm)))
    refine fold_perm r r' hs (put r s h) (put r' s' h) (put_ne hne) (p2.trans ((pl.cons _).trans ?_)) ?_
    · rw [em]; exact p2'.symm
    · show (s.1 ++ [(low r s.2, mn s.2)]).map (·.2) = (s'.1 ++ [(low r' s'.2, mn s'.2)]).map (·.2)
      rw [List.map_append, List.map_append, e, em]
      rfl
theorem tops_perm {cs os hs : List Int} (hne : cs ≠ []) (p : os.Perm cs) : tops os hs = tops cs hs :=
  (fold_perm false false hs ([], os) ([], cs) (fun e => hne (by have e' : os = [] := e; rw [e'] at p; exact p.nil_eq.symm)) p rfl).1
theorem ends_perm {cs os hs : List Int} (hne : cs ≠ []) (p : os.Perm cs) : (ends os hs).Perm (ends cs hs) :=
  (fold_perm false false hs ([], os) ([], cs) (fun e => hne (by have e' : os = [] := e; rw [e'] at p; exact p.nil_eq.symm)) p rfl).2
/-- tops never descend -/
theorem fold_sorted (r : Bool) : ∀ (hs : List Int) (s : List (Nat × Int) × List Int), s.2 ≠ [] → (∀ h ∈ hs, 0 ≤ h) → Sorted (s.1.map (·.2)) → (∀ t ∈ s.1.map (·.2), t ≤ mn s.2) → Sorted ((hs.foldl (put r) s).1.map (·.2))
  | [], s, _, _, so, _ => so
  | h :: hs, s, hne, hp, so, le => by
    obtain ⟨l, p1, p2⟩ := put_cols r s h hne
    have h0 := hp h List.mem_cons_self
    have m0 := mn_spec hne
    have m1 := mn_spec (put_ne (r := r) (h := h) hne)
    have up : mn s.2 ≤ mn (put r s h).2 := by
      rcases List.mem_cons.mp (p2.subset m1.1) with e | e
      · rw [e]; omega
      · exact m0.2 _ (p1.subset (List.mem_cons_of_mem _ e))
    have e1 : (put r s h).1.map (·.2) = s.1.map (·.2) ++ [mn s.2] := by
      show (s.1 ++ [(low r s.2, mn s.2)]).map (·.2) = _
      rw [List.map_append]; rfl
    refine fold_sorted r hs (put r s h) (put_ne hne) (fun x hx => hp x (List.mem_cons_of_mem _ hx)) ?_ ?_
    · rw [e1]
      refine List.pairwise_append.mpr ⟨so, List.pairwise_singleton _ _, fun a ha b hb => ?_⟩
      rw [List.mem_singleton.mp hb]
      exact le a ha
    · rw [e1]
      intro t ht
      rcases List.mem_append.mp ht with ht | ht
      · exact Int.le_trans (le t ht) up
      · rw [List.mem_singleton.mp ht]; exact up
theorem tops_sorted {cs hs : List Int} (hne : cs ≠ []) (hp : ∀ h ∈ hs, 0 ≤ h) : Sorted (tops cs hs) :=
  fold_sorted false hs ([], cs) hne hp List.Pairwise.nil fun t ht => by cases ht
/-- how high the columns, the tops, get -/
theorem fold_high (r : Bool) (B : Int) : ∀ (hs : List Int) (s : List (Nat × Int) × List Int) (M : Int), s.2 ≠ [] → (∀ h ∈ hs, 0 ≤ h ∧ h ≤ B) → (∀ c ∈ s.2, 0 ≤ c ∧ c ≤ M) → (∀ t ∈ s.1.map (·.2), 0 ≤ t ∧ t ≤ M) → 0 ≤ B →
    (∀ c ∈ (hs.foldl (put r) s).2, 0 ≤ c ∧ c ≤ M + hs.length * B) ∧ ∀ t ∈ (hs.foldl (put r) s).1.map (·.2), 0 ≤ t ∧ t ≤ M + hs.length * B
  | [], s, M, _, _, hc, ht, hB => ⟨fun c h => by have := hc c h; simp; omega, fun t h => by have := ht t h; simp; omega⟩
  | h :: hs, s, M, hne, hp, hc, ht, hB => by
    obtain ⟨l, p1, p2⟩ := put_cols r s h hne
    have h0 := hp h List.mem_cons_self
    have m0 := hc _ (mn_spec hne).1
    have q := fold_high r B hs (put r s h) (M + B) (put_ne hne) (fun x hx => hp x (List.mem_cons_of_mem _ hx)) (fun c hcm => ?_) (fun t htm => ?_) hB
    · have e : M + ((h :: hs).length : Nat) * B = M + B + (hs.length : Nat) * B := by
        rw [List.length_cons]
        have : (((hs.length + 1 : Nat)) : Int) * B = (hs.length : Int) * B + B := by
          rw [Int.natCast_add, Int.add_mul]; simp
        rw [this]; omega
      rw [e]
      exact q
    · rcases List.mem_cons.mp (p2.subset hcm) with e | e
      · rw [e]; omega
      · have := hc c (p1.subset (List.mem_cons_of_mem _ e)); omega
    · have e1 : (put r s h).1.map (·.2) = s.1.map (·.2) ++ [mn s.2] := by
        show (s.1 ++ [(low r s.2, mn s.2)]).map (·.2) = _
        rw [List.map_append]; rfl
      rw [e1] at htm
      rcases List.mem_append.mp htm with htm | htm
      · have := ht t htm; omega
      · rw [List.mem_singleton.mp htm]; omega
theorem nat_pow_big {n : Int} (h0 : 0 ≤ n) (h1 : n ≤ 1000000000000000000000000000000000) : n.natAbs < 10 ^ 90 := by
  have e : (10 : Nat) ^ 40 = 10000000000000000000000000000000000000000 := by decide +kernel
  have h3 : n.natAbs < 10 ^ 40 := by rw [e]; omega
  exact Nat.lt_of_lt_of_le h3 (Nat.pow_le_pow_right (by decide) (by decide))
theorem play_high {r : Bool} {cs hs : List Int} (hne : cs ≠ []) (hc : ∀ c ∈ cs, 0 ≤ c ∧ c ≤ 1000000000000000000000000000000) (hh : ∀ h ∈ hs, 1 ≤ h ∧ h ≤ 1000000000000000000000000000000) (hl : hs.length ≤ 200) :
    (∀ c ∈ (play r cs hs).2, c.natAbs < 10 ^ 90) ∧ ∀ t ∈ (play r cs hs).1.map (·.2), t.natAbs < 10 ^ 90 := by
  have q := fold_high r 1000000000000000000000000000000 hs ([], cs) 1000000000000000000000000000000 hne (fun h hm => by have := hh h hm; omega) hc (fun t ht => by cases ht) (by decide)
  have hb : 1000000000000000000000000000000 + (hs.length : Int) * 1000000000000000000000000000000 ≤ 1000000000000000000000000000000000 := by omega
  exact ⟨fun c h => by have := q.1 c h; exact nat_pow_big this.1 (Int.le_trans this.2 hb), fun t h => by have := q.2 t h; exact nat_pow_big this.1 (Int.le_trans this.2 hb)⟩
end Lc

namespace K70
open PySem PySem.Spec PyProof.Rows L2 Lc
def topS (i : Nat) : Stmt := PySem.Challenge.pw_lowcolumns_k70_tops_by_sorted_columns.main.body.getD i (.Pass ⟨0, 0, 0, 0⟩)
abbrev s_is_integer_within : Stmt := topS 8
abbrev nm_is_integer_within : List Str := ["value", "least", "greatest"]
theorem sc_is_integer_within : FnScope nm_is_integer_within ["value", "least", "greatest"] (defScope s_is_integer_within) :=
  ⟨rfl, rfl, rfl, by decide +kernel, rfl, by decide +kernel, by decide +kernel⟩
abbrev s_is_list_of_integers : Stmt := topS 9
abbrev nm_is_list_of_integers : List Str := ["value", "fewest", "most", "least", "greatest", "item"]
theorem sc_is_list_of_integers : FnScope nm_is_list_of_integers ["value", "fewest", "most", "least", "greatest"] (defScope s_is_list_of_integers) :=
  ⟨rfl, rfl, rfl, by decide +kernel, rfl, by decide +kernel, by decide +kernel⟩
abbrev s_is_start : Stmt := topS 11
abbrev nm_is_start : List Str := ["value"]
theorem sc_is_start : FnScope nm_is_start ["value"] (defScope s_is_start) :=
  ⟨rfl, rfl, rfl, by decide +kernel, rfl, by decide +kernel, by decide +kernel⟩
abbrev s_is_cards : Stmt := topS 12
abbrev nm_is_cards : List Str := ["value"]
theorem sc_is_cards : FnScope nm_is_cards ["value"] (defScope s_is_cards) :=
  ⟨rfl, rfl, rfl, by decide +kernel, rfl, by decide +kernel, by decide +kernel⟩
abbrev s_check_start : Stmt := topS 13
abbrev nm_check_start : List Str := ["start"]
theorem sc_check_start : FnScope nm_check_start ["start"] (defScope s_check_start) :=
  ⟨rfl, rfl, rfl, by decide +kernel, rfl, by decide +kernel, by decide +kernel⟩
abbrev s_check_cards : Stmt := topS 14
abbrev nm_check_cards : List Str := ["heights"]
theorem sc_check_cards : FnScope nm_check_cards ["heights"] (defScope s_check_cards) :=
  ⟨rfl, rfl, rfl, by decide +kernel, rfl, by decide +kernel, by decide +kernel⟩
abbrev s_check_start_and_cards : Stmt := topS 15
abbrev nm_check_start_and_cards : List Str := ["start", "heights"]
theorem sc_check_start_and_cards : FnScope nm_check_start_and_cards ["start", "heights"] (defScope s_check_start_and_cards) :=
  ⟨rfl, rfl, rfl, by decide +kernel, rfl, by decide +kernel, by decide +kernel⟩
abbrev s_lowest_column : Stmt := topS 16
abbrev nm_lowest_column : List Str := ["columns", "right", "lowest"]
theorem sc_lowest_column : FnScope nm_lowest_column ["columns", "right"] (defScope s_lowest_column) :=
  ⟨rfl, rfl, rfl, by decide +kernel, rfl, by decide +kernel, by decide +kernel⟩
abbrev s_lay_cards : Stmt := topS 17
abbrev nm_lay_cards : List Str := ["start", "heights", "right", "columns", "places", "height", "column", "top"]
theorem sc_lay_cards : FnScope nm_lay_cards ["start", "heights", "right"] (defScope s_lay_cards) :=
  ⟨rfl, rfl, rfl, by decide +kernel, rfl, by decide +kernel, by decide +kernel⟩
abbrev s_tops_of : Stmt := topS 18
abbrev nm_tops_of : List Str := ["start", "heights", "places", "_", "column", "top"]
theorem sc_tops_of : FnScope nm_tops_of ["start", "heights"] (defScope s_tops_of) :=
  ⟨rfl, rfl, rfl, by decide +kernel, rfl, by decide +kernel, by decide +kernel⟩
abbrev s_end_of : Stmt := topS 19
abbrev nm_end_of : List Str := ["start", "heights", "_", "columns"]
theorem sc_end_of : FnScope nm_end_of ["start", "heights"] (defScope s_end_of) :=
  ⟨rfl, rfl, rfl, by decide +kernel, rfl, by decide +kernel, by decide +kernel⟩
abbrev s_law_cell_at : Stmt := topS 21
abbrev nm_law_cell_at : List Str := ["script", "k"]
theorem sc_law_cell_at : FnScope nm_law_cell_at ["script", "k"] (defScope s_law_cell_at) :=
  ⟨rfl, rfl, rfl, by decide +kernel, rfl, by decide +kernel, by decide +kernel⟩
abbrev s_law_pool : Stmt := topS 22
abbrev nm_law_pool : List Str := ["cell", "place"]
theorem sc_law_pool : FnScope nm_law_pool ["cell", "place"] (defScope s_law_pool) :=
  ⟨rfl, rfl, rfl, by decide +kernel, rfl, by decide +kernel, by decide +kernel⟩
abbrev s_law_draw : Stmt := topS 23
abbrev nm_law_draw : List Str := ["pool", "many", "stir", "found"]
theorem sc_law_draw : FnScope nm_law_draw ["pool", "many"] (defScope s_law_draw) :=
  ⟨rfl, rfl, rfl, by decide +kernel, rfl, by decide +kernel, by decide +kernel⟩
abbrev s_law_begun : Stmt := topS 24
abbrev nm_law_begun : List Str := ["pool", "script", "many", "wide", "k"]
theorem sc_law_begun : FnScope nm_law_begun ["pool", "script"] (defScope s_law_begun) :=
  ⟨rfl, rfl, rfl, by decide +kernel, rfl, by decide +kernel, by decide +kernel⟩
abbrev s_law_cards : Stmt := topS 25
abbrev nm_law_cards : List Str := ["pool", "script", "many", "wide", "found", "style", "k"]
theorem sc_law_cards : FnScope nm_law_cards ["pool", "script"] (defScope s_law_cards) :=
  ⟨rfl, rfl, rfl, by decide +kernel, rfl, by decide +kernel, by decide +kernel⟩
abbrev s_law_mixed : Stmt := topS 26
abbrev nm_law_mixed : List Str := ["pool", "things", "left", "k"]
theorem sc_law_mixed : FnScope nm_law_mixed ["pool", "things"] (defScope s_law_mixed) :=
  ⟨rfl, rfl, rfl, by decide +kernel, rfl, by decide +kernel, by decide +kernel⟩
abbrev s_law_sorted : Stmt := topS 27
abbrev nm_law_sorted : List Str := ["begun", "cards", "rest", "found", "size", "high", "spot"]
theorem sc_law_sorted : FnScope nm_law_sorted ["begun", "cards"] (defScope s_law_sorted) :=
  ⟨rfl, rfl, rfl, by decide +kernel, rfl, by decide +kernel, by decide +kernel⟩
abbrev s_law_right : Stmt := topS 28
abbrev nm_law_right : List Str := ["begun", "other", "cards", "before", "rows", "due", "rest", "told"]
theorem sc_law_right : FnScope nm_law_right ["begun", "other", "cards"] (defScope s_law_right) :=
  ⟨rfl, rfl, rfl, by decide +kernel, rfl, by decide +kernel, by decide +kernel⟩
abbrev s_law : Stmt := topS 29
abbrev nm_law : List Str := ["script", "k", "pool", "turn", "begun", "cards"]
theorem sc_law : FnScope nm_law ["script"] (defScope s_law) :=
  ⟨rfl, rfl, rfl, by decide +kernel, rfl, by decide +kernel, by decide +kernel⟩
structure Txt (K : PySem.W.Frag) (mg : Str → Option Value) where
  a_is_integer_within : Addr
  d_is_integer_within : FuncData
  F_is_integer_within : Fun K "is_integer_within" "is_integer_within" s_is_integer_within a_is_integer_within d_is_integer_within
  b_is_integer_within : Binds K d_is_integer_within ["value", "least", "greatest"] []
  g_is_integer_within : mg "is_integer_within" = some (.ref a_is_integer_within)
  a_is_list_of_integers : Addr
  d_is_list_of_integers : FuncData
  F_is_list_of_integers : Fun K "is_list_of_integers" "is_list_of_integers" s_is_list_of_integers a_is_list_of_integers d_is_list_of_integers
  b_is_list_of_integers : Binds K d_is_list_of_integers ["value", "fewest", "most", "least", "greatest"] []
  g_is_list_of_integers : mg "is_list_of_integers" = some (.ref a_is_list_of_integers)
  a_is_start : Addr
  d_is_start : FuncData
  F_is_start : Fun K "is_start" "is_start" s_is_start a_is_start d_is_start
  b_is_start : Binds K d_is_start ["value"] []
  g_is_start : mg "is_start" = some (.ref a_is_start)
  a_is_cards : Addr
  d_is_cards : FuncData
  F_is_cards : Fun K "is_cards" "is_cards" s_is_cards a_is_cards d_is_cards
  b_is_cards : Binds K d_is_cards ["value"] []
  g_is_cards : mg "is_cards" = some (.ref a_is_cards)
  a_check_start : Addr
  d_check_start : FuncData
  F_check_start : Fun K "check_start" "check_start" s_check_start a_check_start d_check_start
  b_check_start : Binds K d_check_start ["start"] []
  g_check_start : mg "check_start" = some (.ref a_check_start)
  a_check_cards : Addr
  d_check_cards : FuncData
  F_check_cards : Fun K "check_cards" "check_cards" s_check_cards a_check_cards d_check_cards
  b_check_cards : Binds K d_check_cards ["heights"] []
  g_check_cards : mg "check_cards" = some (.ref a_check_cards)
  a_check_start_and_cards : Addr
  d_check_start_and_cards : FuncData
  F_check_start_and_cards : Fun K "check_start_and_cards" "check_start_and_cards" s_check_start_and_cards a_check_start_and_cards d_check_start_and_cards
  b_check_start_and_cards : Binds K d_check_start_and_cards ["start", "heights"] []
  g_check_start_and_cards : mg "check_start_and_cards" = some (.ref a_check_start_and_cards)
  a_lowest_column : Addr
  d_lowest_column : FuncData
  F_lowest_column : Fun K "lowest_column" "lowest_column" s_lowest_column a_lowest_column d_lowest_column
  b_lowest_column : Binds K d_lowest_column ["columns", "right"] []
  g_lowest_column : mg "lowest_column" = some (.ref a_lowest_column)
  a_lay_cards : Addr
  d_lay_cards : FuncData
  F_lay_cards : Fun K "lay_cards" "lay_cards" s_lay_cards a_lay_cards d_lay_cards
  b_lay_cards : Binds K d_lay_cards ["start", "heights", "right"] []
  g_lay_cards : mg "lay_cards" = some (.ref a_lay_cards)
  a_tops_of : Addr
  d_tops_of : FuncData
  F_tops_of : Fun K "tops_of" "tops_of" s_tops_of a_tops_of d_tops_of
  b_tops_of : Binds K d_tops_of ["start", "heights"] []
  g_tops_of : mg "tops_of" = some (.ref a_tops_of)
  a_end_of : Addr
  d_end_of : FuncData
  F_end_of : Fun K "end_of" "end_of" s_end_of a_end_of d_end_of
  b_end_of : Binds K d_end_of ["start", "heights"] []
  g_end_of : mg "end_of" = some (.ref a_end_of)
  a_law_cell_at : Addr
  d_law_cell_at : FuncData
  F_law_cell_at : Fun K "_law_cell_at" "_law_cell_at" s_law_cell_at a_law_cell_at d_law_cell_at
  b_law_cell_at : Binds K d_law_cell_at ["script", "k"] []
  g_law_cell_at : mg "_law_cell_at" = some (.ref a_law_cell_at)
  a_law_pool : Addr
  d_law_pool : FuncData
  F_law_pool : Fun K "_law_pool" "_law_pool" s_law_pool a_law_pool d_law_pool
  b_law_pool : Binds K d_law_pool ["cell", "place"] []
  g_law_pool : mg "_law_pool" = some (.ref a_law_pool)
  a_law_draw : Addr
  d_law_draw : FuncData
  F_law_draw : Fun K "_law_draw" "_law_draw" s_law_draw a_law_draw d_law_draw
  b_law_draw : Binds K d_law_draw ["pool", "many"] []
  g_law_draw : mg "_law_draw" = some (.ref a_law_draw)
  a_law_begun : Addr
  d_law_begun : FuncData
  F_law_begun : Fun K "_law_begun" "_law_begun" s_law_begun a_law_begun d_law_begun
  b_law_begun : Binds K d_law_begun ["pool", "script"] []
  g_law_begun : mg "_law_begun" = some (.ref a_law_begun)
  a_law_cards : Addr
  d_law_cards : FuncData
  F_law_cards : Fun K "_law_cards" "_law_cards" s_law_cards a_law_cards d_law_cards
  b_law_cards : Binds K d_law_cards ["pool", "script"] []
  g_law_cards : mg "_law_cards" = some (.ref a_law_cards)
  a_law_mixed : Addr
  d_law_mixed : FuncData
  F_law_mixed : Fun K "_law_mixed" "_law_mixed" s_law_mixed a_law_mixed d_law_mixed
  b_law_mixed : Binds K d_law_mixed ["pool", "things"] []
  g_law_mixed : mg "_law_mixed" = some (.ref a_law_mixed)
  a_law_sorted : Addr
  d_law_sorted : FuncData
  F_law_sorted : Fun K "_law_sorted" "_law_sorted" s_law_sorted a_law_sorted d_law_sorted
  b_law_sorted : Binds K d_law_sorted ["begun", "cards"] []
  g_law_sorted : mg "_law_sorted" = some (.ref a_law_sorted)
  a_law_right : Addr
  d_law_right : FuncData
  F_law_right : Fun K "_law_right" "_law_right" s_law_right a_law_right d_law_right
  b_law_right : Binds K d_law_right ["begun", "other", "cards"] []
  g_law_right : mg "_law_right" = some (.ref a_law_right)
  a_law : Addr
  d_law : FuncData
  F_law : Fun K "law" "law" s_law a_law d_law
  b_law : Binds K d_law ["script"] []
  g_law : mg "law" = some (.ref a_law)
  z_isinstance : mg "isinstance" = none
  z_bool : mg "bool" = none
  z_int : mg "int" = none
  z_len : mg "len" = none
  z_type : mg "type" = none
  z_list : mg "list" = none
  z_all : mg "all" = none
  z_min : mg "min" = none
  z_max : mg "max" = none
  z_range : mg "range" = none
  z_sorted : mg "sorted" = none
  z_repr : mg "repr" = none
  t_MOST_HEIGHT : Tok
  c_MOST_HEIGHT : mg "MOST_HEIGHT" = some (.int (1000000000000000000000000000000) t_MOST_HEIGHT)
  t_MOST_COLUMNS : Tok
  c_MOST_COLUMNS : mg "MOST_COLUMNS" = some (.int (30) t_MOST_COLUMNS)
  t_MOST_CARDS : Tok
  c_MOST_CARDS : mg "MOST_CARDS" = some (.int (200) t_MOST_CARDS)
section
variable {P : Program} {w : World} {K : PySem.W.Frag} {mg : Str → Option Value} {base : Heap}
/-! ### the program -/
def spIW : Sp := fun vs H Q _ => ∃ v lo hi : Int, vs = [.int v, .int lo, .int hi] ∧ Q (.bl (decide (lo ≤ v ∧ v ≤ hi))) H
theorem ok_is_integer_within (T : Txt K mg) : FnOk P w K mg base CX0 1 T.a_is_integer_within T.d_is_integer_within ["value", "least", "greatest"] spIW := by
  refine T.F_is_integer_within.ok sc_is_integer_within (fun vs H Q E h => ?_) (fun cdv A outer s H vs Q E hr h => ?_)
  · obtain ⟨v, lo, hi, rfl, _⟩ := h; rfl
  · obtain ⟨v, lo, hi, rfl, q⟩ := h
    refine ⟨_, (pss_cons (ps_if (PW.pt (pw_or (pt_not (pt_val (pe_callB call_isi (by rfl) T.z_isinstance (by decide +kernel) (pa_cons (pv 0) (pa_cons (pe_bltn (v := .ty "int") (by rfl) T.z_int (by decide +kernel) rfl) pa_nil))))) (pw_or1 (pt_val (pe_callB call_isi (by rfl) T.z_isinstance (by decide +kernel) (pa_cons (pv 0) (pa_cons (pe_bltn (v := .ty "bool") (by rfl) T.z_bool (by decide +kernel) rfl) pa_nil)))))))
  (pss_one (ps_ret pe_bl))
  pss_nil)
  (pss_one (ps_ret (pe_chain op_le op_le (pv 1) (pv 0) (pv 2))))), ?_⟩
    refine ⟨.int v, rfl, .int v, .ty "int", .type "int", .type "int", true, rfl, .ty _, .base (.int v), kit_ty (by decide +kernel), true, rfl, ?_⟩
    refine iteF ⟨.int v, rfl, .int v, .ty "bool", .type "int", .type "bool", false, rfl, .ty _, .base (.int v), kit_ty (by decide +kernel), false, rfl, iteF ?_⟩
    refine ⟨.int lo, rfl, .int v, rfl, lo, v, rfl, rfl, decide (lo ≤ v), rfl, ?_⟩
    by_cases h1 : lo ≤ v
    · rw [decide_eq_true h1]
      refine iteT ⟨.int hi, rfl, v, hi, rfl, rfl, ?_⟩
      have e : decide (v ≤ hi) = decide (lo ≤ v ∧ v ≤ hi) := by simp [h1]
      show Q (.bl (decide (v ≤ hi))) H
      rw [e]
      exact q
    · rw [decide_eq_false h1]
      refine iteF ?_
      rw [show decide (lo ≤ v ∧ v ≤ hi) = false by simp [h1]] at q
      exact q
abbrev big : Int := 1000000000000000000000000000000
def spIL (K : PySem.W.Frag) : Sp := fun vs H Q _ => ∃ (a : Addr) (few most least gr : Int) (ns : List Int), vs = [.ref a, .int few, .int most, .int least, .int gr] ∧ SqL K H a (ns.map V.int) ∧ ns.length ≤ 90000 ∧
  ∀ H', Same H H' → Q (.bl (decide (few ≤ ns.length ∧ (ns.length : Int) ≤ most) && within least gr ns)) H'
theorem ok_is_list_of_integers (T : Txt K mg) : FnOk P w K mg base CX0 2 T.a_is_list_of_integers T.d_is_list_of_integers ["value", "fewest", "most", "least", "greatest"] (spIL K) := by
  refine T.F_is_list_of_integers.ok sc_is_list_of_integers (fun vs H Q E h => ?_) (fun cdv A outer s H vs Q E hr h => ?_)
  · obtain ⟨a, few, most, least, gr, ns, rfl, _⟩ := h; rfl
  · obtain ⟨a, few, most, least, gr, ns, rfl, hS, hlen, q⟩ := h
    refine ⟨_, (pss_cons (ps_if (PW.pt (pw_and (pt_cmpR op_eqTy (pe_callTy call_type_list (by rfl) T.z_type (by decide +kernel) (pa_cons (pv 0) pa_nil)) (pe_bltn (v := .ty "list") (by rfl) T.z_list (by decide +kernel) rfl) (nomark _)) (pw_and1 (pt_chain op_le op_le (pv 1) (pe_callB call_len_seq (by rfl) T.z_len (by decide +kernel) (pa_cons (pv 0) pa_nil)) (pv 2)))))
  (pss_one (ps_ret (pe_callB (cr_all rfl) (by rfl) T.z_all (by decide +kernel) (pa_cons (pe_lc (own := [("item", 5)]) rfl sc_is_list_of_integers.nd (pi_list (pv 0)) (blkOk_by (own := [("item", 5)]) (N := nm_is_list_of_integers) (sc := defScope s_is_list_of_integers) (by decide +kernel)) (fun _ _ _ _ _ => (pg_name (i := 5) sc_is_list_of_integers.nd rfl (.inl rfl))) (fun _ _ _ _ _ => pts_nil) (fun _ _ _ _ _ => (pe_call (ok_is_integer_within T) hr (by rfl) T.g_is_integer_within T.F_is_integer_within.kp T.b_is_integer_within .nil pass0 (pa_cons (pv 5) (pa_cons (pv 3) (pa_cons (pv 4) pa_nil)))))) pa_nil))))
  pss_nil)
  (pss_one (ps_ret pe_bl))), ?_⟩
    refine ⟨.ref a, rfl, ⟨a, _, rfl, hS, rfl, rfl, true, rfl, iteT ?_⟩⟩
    refine ⟨.int few, rfl, .ref a, rfl, a, _, rfl, .inl hS, few, _, rfl, rfl, decide (few ≤ ((ns.map V.int).length : Int)), rfl, ?_⟩
    have eL : (((ns.map V.int).length : Nat) : Int) = (ns.length : Int) := by rw [List.length_map]
    rw [eL]
    have bad : ¬ (few ≤ (ns.length : Int) ∧ (ns.length : Int) ≤ most) → Q (.bl false) H := fun hn => by
      have := q H (Same.refl H)
      rw [decide_eq_false hn] at this
      exact this
    by_cases h1 : few ≤ (ns.length : Int)
    · rw [decide_eq_true h1]
      refine iteT ⟨.int most, rfl, (ns.length : Int), most, rfl, rfl, decide ((ns.length : Int) ≤ most), rfl, ?_⟩
      by_cases h2 : (ns.length : Int) ≤ most
      · rw [decide_eq_true h2]
        refine iteT ⟨.ref a, rfl, a, rfl, ⟨_, hS⟩, fun D nD => ?_⟩
        refine lc_list (K := K) (a := a) (xs := ns.map V.int) (fun i H' => Same H H' ∧ H' D = some (.lst ((ns.take i).map fun n => V.bl (decide (least ≤ n ∧ n ≤ gr)))))
          ⟨same_new _ nD, upd_same⟩ (fun i H' _ p => p.1.seq hS) (fun i x H' e p => ?_) (fun H' p => ?_)
        · obtain ⟨n, en, rfl⟩ := get_map e
          obtain ⟨sm, eD⟩ := p
          refine ⟨rfl, ?_⟩
          refine ⟨.int n, rfl, .int least, rfl, .int gr, rfl, n, least, gr, rfl, _, eD, ?_, same_set sm nD, ?_⟩
          · rw [List.length_map, List.length_take]
            exact small_of (Nat.le_trans (Nat.min_le_right _ _) hlen) (by decide)
          · rw [upd_same, take_map_succ (fun n => V.bl (decide (least ≤ n ∧ n ≤ gr))) en]
        · obtain ⟨sm, eD⟩ := p
          rw [List.length_map, List.take_length] at eD
          refine ⟨D, ns.map (fun n => decide (least ≤ n ∧ n ≤ gr)), rfl, SqL.of (by rw [eD, List.map_map]; rfl), ?_⟩
          have := q H' sm
          rw [decide_eq_true ⟨h1, h2⟩, Bool.true_and] at this
          rw [List.all_map]
          exact this
      · rw [decide_eq_false h2]
        exact iteF (bad fun z => h2 z.2)
    · rw [decide_eq_false h1]
      exact iteF ⟨false, rfl, iteF (bad fun z => h1 z.1)⟩
/-- starts, cards -/
structure IsStart (ns : List Int) : Prop where
  len : 1 ≤ ns.length ∧ ns.length ≤ 30
  all : ∀ n ∈ ns, 0 ≤ n ∧ n ≤ big
structure IsCards (ns : List Int) : Prop where
  len : ns.length ≤ 200
  all : ∀ n ∈ ns, 1 ≤ n ∧ n ≤ big
theorem within_of {lo hi : Int} {ns : List Int} (h : ∀ n ∈ ns, lo ≤ n ∧ n ≤ hi) : within lo hi ns = true := List.all_eq_true.mpr fun n hn => decide_eq_true (h n hn)
def spSt (K : PySem.W.Frag) : Sp := fun vs H Q _ => ∃ (a : Addr) (ns : List Int), vs = [.ref a] ∧ SqL K H a (ns.map V.int) ∧ IsStart ns ∧ ∀ H', Same H H' → Q (.bl true) H'
def spCd (K : PySem.W.Frag) : Sp := fun vs H Q _ => ∃ (a : Addr) (ns : List Int), vs = [.ref a] ∧ SqL K H a (ns.map V.int) ∧ IsCards ns ∧ ∀ H', Same H H' → Q (.bl true) H'
theorem ok_is_start (T : Txt K mg) : FnOk P w K mg base CX0 3 T.a_is_start T.d_is_start ["value"] (spSt K) := by
  refine T.F_is_start.ok sc_is_start (fun vs H Q E h => ?_) (fun cdv A outer s H vs Q E hr h => ?_)
  · obtain ⟨a, ns, rfl, _⟩ := h; rfl
  · obtain ⟨a, ns, rfl, hS, st, q⟩ := h
    refine ⟨_, (pss_one (ps_ret (pe_call (ok_is_list_of_integers T) hr (by rfl) T.g_is_list_of_integers T.F_is_list_of_integers.kp T.b_is_list_of_integers .nil pass0 (pa_cons (pv 0) (pa_cons pe_int (pa_cons (pe_glob (v := .int 30) (by rfl) T.c_MOST_COLUMNS ⟨_, rfl⟩) (pa_cons pe_int (pa_cons (pe_glob (v := .int 1000000000000000000000000000000) (by rfl) T.c_MOST_HEIGHT ⟨_, rfl⟩) pa_nil)))))))), ?_⟩
    refine ⟨.ref a, rfl, a, 1, 30, 0, big, ns, rfl, hS, by have := st.len; omega, fun H' sm => ?_⟩
    have := st.len
    rw [within_of st.all, decide_eq_true (by omega)]
    exact q H' sm
theorem ok_is_cards (T : Txt K mg) : FnOk P w K mg base CX0 3 T.a_is_cards T.d_is_cards ["value"] (spCd K) := by
  refine T.F_is_cards.ok sc_is_cards (fun vs H Q E h => ?_) (fun cdv A outer s H vs Q E hr h => ?_)
  · obtain ⟨a, ns, rfl, _⟩ := h; rfl
  · obtain ⟨a, ns, rfl, hS, st, q⟩ := h
    refine ⟨_, (pss_one (ps_ret (pe_call (ok_is_list_of_integers T) hr (by rfl) T.g_is_list_of_integers T.F_is_list_of_integers.kp T.b_is_list_of_integers .nil pass0 (pa_cons (pv 0) (pa_cons pe_int (pa_cons (pe_glob (v := .int 200) (by rfl) T.c_MOST_CARDS ⟨_, rfl⟩) (pa_cons pe_int (pa_cons (pe_glob (v := .int 1000000000000000000000000000000) (by rfl) T.c_MOST_HEIGHT ⟨_, rfl⟩) pa_nil)))))))), ?_⟩
    refine ⟨.ref a, rfl, a, 0, 200, 1, big, ns, rfl, hS, by have := st.len; omega, fun H' sm => ?_⟩
    have := st.len
    rw [within_of st.all, decide_eq_true (by omega)]
    exact q H' sm
def spCSt (K : PySem.W.Frag) : Sp := fun vs H Q _ => ∃ (a : Addr) (ns : List Int), vs = [.ref a] ∧ SqL K H a (ns.map V.int) ∧ IsStart ns ∧ ∀ H', Same H H' → Q .non H'
def spCCd (K : PySem.W.Frag) : Sp := fun vs H Q _ => ∃ (a : Addr) (ns : List Int), vs = [.ref a] ∧ SqL K H a (ns.map V.int) ∧ IsCards ns ∧ ∀ H', Same H H' → Q .non H'
theorem ok_check_start (T : Txt K mg) : FnOk P w K mg base CX0 4 T.a_check_start T.d_check_start ["start"] (spCSt K) := by
  refine T.F_check_start.ok sc_check_start (fun vs H Q E h => ?_) (fun cdv A outer s H vs Q E hr h => ?_)
  · obtain ⟨a, ns, rfl, _⟩ := h; rfl
  · obtain ⟨a, ns, rfl, hS, st, q⟩ := h
    refine ⟨_, (pss_one (ps_if (pt_not (pt_val (pe_call (ok_is_start T) hr (by rfl) T.g_is_start T.F_is_start.kp T.b_is_start .nil pass0 (pa_cons (pv 0) pa_nil))))
  (pss_one ps_never)
  pss_nil)), ?_⟩
    exact ⟨.ref a, rfl, a, ns, rfl, hS, st, fun H' sm => ⟨true, rfl, iteF (q H' sm)⟩⟩
theorem ok_check_cards (T : Txt K mg) : FnOk P w K mg base CX0 4 T.a_check_cards T.d_check_cards ["heights"] (spCCd K) := by
  refine T.F_check_cards.ok sc_check_cards (fun vs H Q E h => ?_) (fun cdv A outer s H vs Q E hr h => ?_)
  · obtain ⟨a, ns, rfl, _⟩ := h; rfl
  · obtain ⟨a, ns, rfl, hS, st, q⟩ := h
    refine ⟨_, (pss_one (ps_if (pt_not (pt_val (pe_call (ok_is_cards T) hr (by rfl) T.g_is_cards T.F_is_cards.kp T.b_is_cards .nil pass0 (pa_cons (pv 0) pa_nil))))
  (pss_one ps_never)
  pss_nil)), ?_⟩
    exact ⟨.ref a, rfl, a, ns, rfl, hS, st, fun H' sm => ⟨true, rfl, iteF (q H' sm)⟩⟩
def spCSC (K : PySem.W.Frag) : Sp := fun vs H Q _ => ∃ (a b : Addr) (xs ns : List Int), vs = [.ref a, .ref b] ∧ SqL K H a (xs.map V.int) ∧ SqL K H b (ns.map V.int) ∧ IsStart xs ∧ IsCards ns ∧ ∀ H', Same H H' → Q .non H'
theorem ok_check_start_and_cards (T : Txt K mg) : FnOk P w K mg base CX0 5 T.a_check_start_and_cards T.d_check_start_and_cards ["start", "heights"] (spCSC K) := by
  refine T.F_check_start_and_cards.ok sc_check_start_and_cards (fun vs H Q E h => ?_) (fun cdv A outer s H vs Q E hr h => ?_)
  · obtain ⟨a, b, xs, ns, rfl, _⟩ := h; rfl
  · obtain ⟨a, b, xs, ns, rfl, hA, hB, st, cd, q⟩ := h
    refine ⟨_, (pss_cons (ps_expr (pe_call (ok_check_start T) hr (by rfl) T.g_check_start T.F_check_start.kp T.b_check_start .nil pass0 (pa_cons (pv 0) pa_nil)))
  (pss_one (ps_expr (pe_call (ok_check_cards T) hr (by rfl) T.g_check_cards T.F_check_cards.kp T.b_check_cards .nil pass0 (pa_cons (pv 1) pa_nil))))), ?_⟩
    exact ⟨.ref a, rfl, a, xs, rfl, hA, st, fun H1 s1 => ⟨.ref b, rfl, b, ns, rfl, s1.seq hB, cd, fun H2 s2 => q H2 (s1.trans s2)⟩⟩
end

section
variable {P : Program} {w : World} {K : PySem.W.Frag} {mg : Str → Option Value} {base : Heap}
def spLow (K : PySem.W.Frag) : Sp := fun vs H Q _ => ∃ (a : Addr) (r : Bool) (cs : List Int), vs = [.ref a, .bl r] ∧ SqL K H a (cs.map V.int) ∧ cs ≠ [] ∧ ∀ H', Same H H' → Q (.int (low r cs : Nat)) H'
theorem eqV_ne {x y : Int} (h : x ≠ y) : eqV (.int x) (.int y) = false := by
  show (x == y) = false
  exact beq_false_of_ne h
theorem flats (ns : List Int) : (ns.map V.int).all flatV = true := by
  rw [List.all_map]
  exact List.all_eq_true.mpr fun _ _ => rfl
theorem ok_lowest_column (T : Txt K mg) : FnOk P w K mg base CX0 1 T.a_lowest_column T.d_lowest_column ["columns", "right"] (spLow K) := by
  refine T.F_lowest_column.ok sc_lowest_column (fun vs H Q E h => ?_) (fun cdv A outer s H vs Q E hr h => ?_)
  · obtain ⟨a, r, cs, rfl, _⟩ := h; rfl
  · obtain ⟨a, r, cs, rfl, hS, hne, q⟩ := h
    refine ⟨_, (pss_cons (ps_set (i := 2) sc_lowest_column.nd rfl (.inl rfl) (pe_callB (cr_min rfl) (by rfl) T.z_min (by decide +kernel) (pa_cons (pv 0) pa_nil)))
  (pss_cons (ps_if (pt_val (pv 1))
  (pss_one (ps_ret (pe_op op_sub (pe_op op_sub (pe_callB call_len_seq (by rfl) T.z_len (by decide +kernel) (pa_cons (pv 0) pa_nil)) pe_int) (pe_bm PySem.F.plainAttrs_list PySem.F.slot_list_index PySem.F.type_list_index mt_index (pe_revL (pv 0)) (pa_cons (pv 2) pa_nil)))))
  pss_nil)
  (pss_one (ps_ret (pe_bm PySem.F.plainAttrs_list PySem.F.slot_list_index PySem.F.type_list_index mt_index (pv 0) (pa_cons (pv 2) pa_nil)))))), ?_⟩
    have hpos : 0 < cs.length := List.length_pos_iff.mpr hne
    refine ⟨.ref a, rfl, a, cs, rfl, hS, hpos, fun m hm hle => ?_⟩
    have em : m = mn cs := (mn_eq hm hle).symm
    subst em
    refine ⟨.bl r, rfl, r, rfl, ?_⟩
    cases r with
    | true =>
      have hm2 : mn cs ∈ cs.reverse := List.mem_reverse.mpr hm
      have il : ix (mn cs) cs.reverse < cs.length := by
        have := get_lt (ix_get hm2)
        rwa [List.length_reverse] at this
      refine ⟨.ref a, rfl, a, _, rfl, .inl hS, _, 1, rfl, rfl, .ref a, rfl, a, _, rfl, hS, fun p np => ?_⟩
      have sm : Same H (upd H p (.lst (cs.map V.int).reverse)) := same_new _ np
      have er : (cs.map V.int).reverse = cs.reverse.map V.int := List.map_reverse.symm
      refine ⟨.inl ⟨rfl, _, SqL.of upd_same⟩, .int (mn cs), rfl, p, _, .int (mn cs), ix (mn cs) cs.reverse, .int (mn cs), rfl, rfl, SqL.of upd_same, rfl, ?_, ?_, ?_, ?_, ?_⟩
      · rw [er]; exact flats _
      · rw [er, List.getElem?_map, ix_get hm2]; rfl
      · show (mn cs == mn cs) = true
        exact beq_self_eq_true _
      · intro k z hk hz
        rw [er] at hz
        obtain ⟨n, en, rfl⟩ := get_map hz
        exact eqV_ne (ix_first hk en)
      · refine ⟨_, _, rfl, rfl, ?_⟩
        have := q _ sm
        have e : (((low true cs : Nat)) : Int) = (((cs.map V.int).length : Nat) : Int) - 1 - ((ix (mn cs) cs.reverse : Nat) : Int) := by
          show (((if true = true then cs.length - 1 - ix (mn cs) cs.reverse else ix (mn cs) cs : Nat)) : Int) = _
          rw [if_pos rfl, List.length_map]
          omega
        rw [e] at this
        exact this
    | false =>
      refine ⟨.ref a, rfl, .inl ⟨rfl, _, hS⟩, .int (mn cs), rfl, a, _, .int (mn cs), ix (mn cs) cs, .int (mn cs), rfl, rfl, hS, rfl, flats _, ?_, ?_, ?_, q H (Same.refl H)⟩
      · rw [List.getElem?_map, ix_get hm]; rfl
      · show (mn cs == mn cs) = true
        exact beq_self_eq_true _
      · intro k z hk hz
        obtain ⟨n, en, rfl⟩ := get_map hz
        exact eqV_ne (ix_first hk en)
/-- a list of tuples (column, top) -/
def Prs (H : Hp) (l : List V) (ps : List (Nat × Int)) : Prop := l.length = ps.length ∧ ∀ (i : Nat) (v : V) (p : Nat × Int), l[i]? = some v → ps[i]? = some p → ∃ q, v = .ref q ∧ H q = some (.tup [.int p.1, .int p.2])
theorem Prs.same {H H' : Hp} {l : List V} {ps : List (Nat × Int)} (h : Prs H l ps) (s : Same H H') : Prs H' l ps := ⟨h.1, fun i v p e1 e2 => by
  obtain ⟨q, e, hq⟩ := h.2 i v p e1 e2
  exact ⟨q, e, s _ _ hq⟩⟩
theorem Prs.but {H H' : Hp} {a : Addr} {l : List V} {ps : List (Nat × Int)} (h : Prs H l ps) (n : ∀ xs, H a ≠ some (.tup xs)) (s : But a H H') : Prs H' l ps := ⟨h.1, fun i v p e1 e2 => by
  obtain ⟨q, e, hq⟩ := h.2 i v p e1 e2
  exact ⟨q, e, s _ _ (fun z => n _ (z ▸ hq)) hq⟩⟩
theorem Prs.snoc {H : Hp} {l : List V} {ps : List (Nat × Int)} {q : Addr} {p : Nat × Int} (h : Prs H l ps) (hq : H q = some (.tup [.int p.1, .int p.2])) : Prs H (l ++ [.ref q]) (ps ++ [p]) := by
  refine ⟨by rw [List.length_append, List.length_append, h.1]; rfl, fun i v p' e1 e2 => ?_⟩
  by_cases hi : i < l.length
  · rw [List.getElem?_append_left hi] at e1
    rw [List.getElem?_append_left (by rw [← h.1]; exact hi)] at e2
    exact h.2 i v p' e1 e2
  · rw [List.getElem?_append_right (by omega)] at e1
    rw [List.getElem?_append_right (by rw [← h.1]; omega), ← h.1] at e2
    cases hk : i - l.length with
    | zero =>
      rw [hk] at e1 e2
      cases e1
      cases e2
      exact ⟨q, rfl, hq⟩
    | succ k => rw [hk] at e1; cases e1
def spLay (K : PySem.W.Frag) : Sp := fun vs H Q _ => ∃ (a b : Addr) (r : Bool) (cs hs : List Int), vs = [.ref a, .ref b, .bl r] ∧ SqL K H a (cs.map V.int) ∧ SqL K H b (hs.map V.int) ∧ cs ≠ [] ∧ hs.length ≤ 90000 ∧ cs.length ≤ 90000 ∧
  ∀ H' t p c l, Same H H' → H t = none → H p = none → H c = none → H' t = some (.tup [.ref p, .ref c]) → H' p = some (.lst l) → Prs H' l (play r cs hs).1 → H' c = some (.lst ((play r cs hs).2.map V.int)) → Q (.ref t) H'
theorem ok_lay_cards (T : Txt K mg) : FnOk P w K mg base CX0 2 T.a_lay_cards T.d_lay_cards ["start", "heights", "right"] (spLay K) := by
  refine T.F_lay_cards.ok sc_lay_cards (fun vs H Q E h => ?_) (fun cdv A outer s H vs Q E hr h => ?_)
  · obtain ⟨a, b, r, cs, hs, rfl, _⟩ := h; rfl
  · obtain ⟨a, b, r, cs, hs, rfl, hA, hB, hne, hl1, hl2, q⟩ := h
    refine ⟨_, (pss_cons (ps_set (i := 3) sc_lay_cards.nd rfl (.inl rfl) (pe_callTy call_list_of (by rfl) T.z_list (by decide +kernel) (pa_cons (pv 0) pa_nil)))
  (pss_cons (ps_set (i := 4) sc_lay_cards.nd rfl (.inl rfl) (pe_lst pa_nil))
  (pss_cons (ps_for PassesOwn.never rfl (pi_list (pv 1)) (pg_name (i := 5) sc_lay_cards.nd rfl (.inl rfl))
  (pss_cons (ps_set (i := 6) sc_lay_cards.nd rfl (.inl rfl) (pe_call (ok_lowest_column T) hr (by rfl) T.g_lowest_column T.F_lowest_column.kp T.b_lowest_column .nil pass0 (pa_cons (pv 3) (pa_cons (pv 2) pa_nil))))
  (pss_cons (ps_set (i := 7) sc_lay_cards.nd rfl (.inl rfl) (pe_ix ix_list (pv 3) (pv 6) (fun _ _ => rfl)))
  (pss_cons (ps_expr (pe_bm PySem.F.plainAttrs_list PySem.F.slot_list_append PySem.F.type_list_append mt_append (pv 4) (pa_cons (pe_tup (pa_cons (pv 6) (pa_cons (pv 7) pa_nil))) pa_nil)))
  (pss_one (ps_asg (pe_op op_add (pv 7) (pv 5)) (pg_sub (pv 3) (pv 6) set_list)))))))
  (pss_one (ps_ret (pe_tup (pa_cons (pv 4) (pa_cons (pv 3) pa_nil)))))))), ?_⟩
    refine ⟨.ref a, rfl, a, _, rfl, .inl hA, fun c nc => ?_⟩
    have s1 : Same H (upd H c (.lst (cs.map V.int))) := same_new _ nc
    refine ⟨Nat.zero_le _, fun p np => ?_⟩
    have s2 : Same H (upd (upd H c (.lst (cs.map V.int))) p (.lst [])) := same_lay s1 np
    have npc : p ≠ c := fun e => by rw [e, upd_same] at np; cases np
    have nH : H p = none := s1.free np
    refine ⟨.ref b, rfl, b, rfl, ⟨_, s2.seq hB⟩, ?_⟩
    refine for_list (K := K) (a := b) (xs := hs.map V.int) (fun i σ H1 => ∃ y5 y6 y7 l, σ = [some (.ref a), some (.ref b), some (.bl r), some (.ref c), some (.ref p), y5, y6, y7] ∧ Same H H1 ∧
        H1 c = some (.lst ((play r cs (hs.take i)).2.map V.int)) ∧ H1 p = some (.lst l) ∧ Prs H1 l (play r cs (hs.take i)).1)
      ⟨none, none, none, [], rfl, s2, ?_, ?_, rfl, fun i v p e => by cases e⟩ (fun i σ H1 _ h => ?_) (fun i x σ H1 hx h => ?_) (fun σ H1 h => ?_)
    · rw [upd_ne npc.symm, upd_same]; rfl
    · rw [upd_same]
    · obtain ⟨_, _, _, _, _, sm, _⟩ := h
      exact sm.seq hB
    · obtain ⟨y5, y6, y7, l, rfl, sm, hc, hp, hP⟩ := h
      obtain ⟨n, en, rfl⟩ := get_map hx
      have hne1 : (play r cs (hs.take i)).2 ≠ [] := play_ne hne
      refine ⟨.ref c, rfl, .bl r, rfl, c, r, _, rfl, SqL.of hc, hne1, fun H2 sA => ?_⟩
      have hc2 := sA _ _ hc
      have hp2 := sA _ _ hp
      have e0 : ((play r cs (hs.take i)).2.map V.int)[low r (play r cs (hs.take i)).2]? = some (.int (mn (play r cs (hs.take i)).2)) := by
        rw [List.getElem?_map, low_get hne1]; rfl
      refine ⟨.ref c, rfl, _, rfl, c, _, _, .int (mn (play r cs (hs.take i)).2), rfl, rfl, SqL.of hc2, atI_nat e0, ?_⟩
      refine ⟨.ref p, rfl, .inl ⟨rfl, _, SqL.of hp2⟩, _, rfl, _, rfl, (by show 2 ≤ sizeLine; decide), fun t nt => ?_⟩
      have nt1 : H2 t = none := nt
      have npt : p ≠ t := ne_of_none hp2 nt1
      have nct : c ≠ t := ne_of_none hc2 nt1
      refine ⟨p, l, _, rfl, rfl, ?_, ?_, ?_⟩
      · rw [upd_ne npt]; exact hp2
      · have e1 := hP.1
        rw [play_len] at e1
        rw [e1, List.length_take]
        exact small_of (Nat.le_trans (Nat.min_le_right _ _) hl1) (by decide)
      · refine ⟨_, rfl, _, rfl, _, _, rfl, rfl, .ref c, rfl, _, rfl, c, (play r cs (hs.take i)).2.map V.int, _, low r (play r cs (hs.take i)).2, rfl, rfl, ?_, ?_, ?_⟩
        · show upd (upd H2 t _) p _ c = _
          rw [upd_ne (Ne.symm npc), upd_ne nct]; exact hc2
        · exact ixN_nat (by rw [List.length_map]; exact low_lt hne1)
        · have e2 : (hs.take (i + 1)) = hs.take i ++ [n] := by rw [List.take_add_one, en]; rfl
          have sB : Same H2 (upd H2 t (.tup [.int (low r (play r cs (hs.take i)).2 : Nat), .int (mn (play r cs (hs.take i)).2)])) := same_new _ nt1
          have hPt : Prs (upd H2 t (.tup [.int (low r (play r cs (hs.take i)).2 : Nat), .int (mn (play r cs (hs.take i)).2)])) l (play r cs (hs.take i)).1 := (hP.same sA).same sB
          refine ⟨_, _, _, l ++ [.ref t], rfl, ?_, ?_, ?_, ?_⟩
          · exact same_set (same_set (sm.trans (sA.trans sB)) nH) nc
          · rw [upd_same, e2, play_snoc]
            show _ = some (HO.lst (((play r cs (hs.take i)).2.set _ _).map V.int))
            rw [List.map_set]
          · rw [upd_ne npc, upd_same]
          · rw [e2, play_snoc]
            refine Prs.but (a := c) (Prs.but (a := p) (Prs.snoc hPt upd_same) (fun xs e => ?_) (But.upd _ _ _)) (fun xs e => ?_) (But.upd _ _ _)
            · rw [upd_ne npt, hp2] at e; cases e
            · rw [upd_ne (Ne.symm npc), upd_ne nct, hc2] at e; cases e
    · obtain ⟨y5, y6, y7, l, rfl, sm, hc, hp, hP⟩ := h
      rw [List.length_map, List.take_length] at hc hP
      refine ⟨.ref p, rfl, .ref c, rfl, (by show 2 ≤ sizeLine; decide), fun t nt => ?_⟩
      have sT := same_new (H := H1) (p := t) (.tup [.ref p, .ref c]) nt
      exact q _ t p c l (sm.trans sT) (sm.free nt) nH nc upd_same (sT _ _ hp) (hP.same sT) (sT _ _ hc)

/-- the tops of the cards -/
def spTops (K : PySem.W.Frag) : Sp := fun vs H Q _ => ∃ (a b : Addr) (cs hs : List Int), vs = [.ref a, .ref b] ∧ SqL K H a (cs.map V.int) ∧ SqL K H b (hs.map V.int) ∧ IsStart cs ∧ IsCards hs ∧
  ∀ H' p, Same H H' → H p = none → H' p = some (.lst ((tops cs hs).map V.int)) → Q (.ref p) H'
theorem ok_tops_of (T : Txt K mg) : FnOk P w K mg base CX0 6 T.a_tops_of T.d_tops_of ["start", "heights"] (spTops K) := by
  refine T.F_tops_of.ok sc_tops_of (fun vs H Q E h => ?_) (fun cdv A outer s H vs Q E hr h => ?_)
  · obtain ⟨a, b, cs, hs, rfl, _⟩ := h; rfl
  · obtain ⟨a, b, cs, hs, rfl, hA, hB, st, cd, q⟩ := h
    refine ⟨_, (pss_cons (ps_expr (pe_call (ok_check_start_and_cards T) hr (by rfl) T.g_check_start_and_cards T.F_check_start_and_cards.kp T.b_check_start_and_cards .nil pass0 (pa_cons (pv 0) (pa_cons (pv 1) pa_nil))))
  (pss_cons (ps_asg (pe_call (ok_lay_cards T) (hr.mono (by decide)) (by rfl) T.g_lay_cards T.F_lay_cards.kp T.b_lay_cards .nil pass0 (pa_cons (pv 0) (pa_cons (pv 1) (pa_cons pe_bl pa_nil)))) (pg_tup rfl (pgs_cons (pg_name (i := 2) sc_tops_of.nd rfl (.inl rfl)) (pgs_cons (pg_name (i := 3) sc_tops_of.nd rfl (.inl rfl)) pgs_nil))))
  (pss_one (ps_ret (pe_lc (own := [("column", 4), ("top", 5)]) (g := (gTup K 2 (gCons (gName 4) (gCons (gName 5) gNil)))) rfl sc_tops_of.nd (pi_list (pv 2)) (blkOk_by (own := [("column", 4), ("top", 5)]) (N := nm_tops_of) (sc := defScope s_tops_of) (by decide +kernel)) (fun _ _ _ _ _ => (pg_tup rfl (pgs_cons (pg_name (i := 4) sc_tops_of.nd rfl (.inl rfl)) (pgs_cons (pg_name (i := 5) sc_tops_of.nd rfl (.inl rfl)) pgs_nil)))) (fun _ _ _ _ _ => pts_nil) (fun _ _ _ _ _ => (pv 5))))))), ?_⟩
    have l1 := st.len
    have l2 := cd.len
    refine ⟨.ref a, rfl, .ref b, rfl, a, b, cs, hs, rfl, hA, hB, st, cd, fun H1 s1 => ?_⟩
    refine ⟨.ref a, rfl, .ref b, rfl, a, b, false, cs, hs, rfl, s1.seq hA, s1.seq hB, (fun e => by rw [e] at l1; simp at l1), by omega, by omega, fun H2 t p c l s2 nt np nc ht hp hP hc => ?_⟩
    refine ⟨t, [.ref p, .ref c], rfl, SqT.of ht, rfl, .ref p, [.ref c], rfl, .ref c, [], rfl, rfl, ?_⟩
    refine ⟨.ref p, rfl, p, rfl, ⟨_, SqL.of hp⟩, fun D nD => ?_⟩
    have nDp : p ≠ D := ne_of_none hp nD
    refine lc_list (K := K) (a := p) (xs := l) (fun i H' => Same H2 H' ∧ H' D = some (.lst (((tops cs hs).take i).map V.int))) ⟨same_new _ nD, upd_same⟩ (fun i H' _ h => SqL.of (h.1 _ _ hp)) (fun i x H' e h => ?_) (fun H' h => ?_)
    · obtain ⟨sm, eD⟩ := h
      have il : i < (play false cs hs).1.length := by rw [← hP.1]; exact get_lt e
      obtain ⟨z, rfl, hz⟩ := hP.2 i x _ e (List.getElem?_eq_getElem il)
      refine ⟨z, [_, _], rfl, SqT.of (sm _ _ hz), rfl, _, [_], rfl, _, [], rfl, rfl, rfl, ?_⟩
      refine ⟨_, rfl, _, eD, ?_, same_set sm nD, ?_⟩
      · rw [List.length_map, List.length_take, tops_len]
        exact small_of (Nat.le_trans (Nat.min_le_right _ _) l2) (by decide)
      · rw [upd_same]
        refine congrArg (fun z => some (HO.lst z)) (take_map_succ V.int ?_)
        unfold tops
        rw [List.getElem?_map, List.getElem?_eq_getElem il]
        rfl
    · obtain ⟨sm, eD⟩ := h
      rw [hP.1, play_len, ← tops_len cs hs, List.take_length] at eD
      exact q H' D (s1.trans (s2.trans sm)) (s1.free (s2.free nD)) eD
def spEnd (K : PySem.W.Frag) : Sp := fun vs H Q _ => ∃ (a b : Addr) (cs hs : List Int), vs = [.ref a, .ref b] ∧ SqL K H a (cs.map V.int) ∧ SqL K H b (hs.map V.int) ∧ IsStart cs ∧ IsCards hs ∧
  ∀ H' p, Same H H' → H p = none → H' p = some (.lst ((ends cs hs).map V.int)) → Q (.ref p) H'
theorem ok_end_of (T : Txt K mg) : FnOk P w K mg base CX0 6 T.a_end_of T.d_end_of ["start", "heights"] (spEnd K) := by
  refine T.F_end_of.ok sc_end_of (fun vs H Q E h => ?_) (fun cdv A outer s H vs Q E hr h => ?_)
  · obtain ⟨a, b, cs, hs, rfl, _⟩ := h; rfl
  · obtain ⟨a, b, cs, hs, rfl, hA, hB, st, cd, q⟩ := h
    refine ⟨_, (pss_cons (ps_expr (pe_call (ok_check_start_and_cards T) hr (by rfl) T.g_check_start_and_cards T.F_check_start_and_cards.kp T.b_check_start_and_cards .nil pass0 (pa_cons (pv 0) (pa_cons (pv 1) pa_nil))))
  (pss_cons (ps_asg (pe_call (ok_lay_cards T) (hr.mono (by decide)) (by rfl) T.g_lay_cards T.F_lay_cards.kp T.b_lay_cards .nil pass0 (pa_cons (pv 0) (pa_cons (pv 1) (pa_cons pe_bl pa_nil)))) (pg_tup rfl (pgs_cons (pg_name (i := 2) sc_end_of.nd rfl (.inl rfl)) (pgs_cons (pg_name (i := 3) sc_end_of.nd rfl (.inl rfl)) pgs_nil))))
  (pss_one (ps_ret (pv 3))))), ?_⟩
    have l1 := st.len
    have l2 := cd.len
    refine ⟨.ref a, rfl, .ref b, rfl, a, b, cs, hs, rfl, hA, hB, st, cd, fun H1 s1 => ?_⟩
    refine ⟨.ref a, rfl, .ref b, rfl, a, b, false, cs, hs, rfl, s1.seq hA, s1.seq hB, (fun e => by rw [e] at l1; simp at l1), by omega, by omega, fun H2 t p c l s2 nt np nc ht hp hP hc => ?_⟩
    refine ⟨t, [.ref p, .ref c], rfl, SqT.of ht, rfl, .ref p, [.ref c], rfl, .ref c, [], rfl, rfl, ?_⟩
    exact ⟨.ref c, rfl, q H2 c (s1.trans s2) (s1.free nc) hc⟩
end

section
variable {P : Program} {w : World} {K : PySem.W.Frag} {mg : Str → Option Value} {base : Heap}
/-! ### the law's draws -/
def spCell (K : PySem.W.Frag) : Sp := fun vs H Q _ => ∃ (a : Addr) (k : Nat) (ns : List Int), vs = [.ref a, .int k] ∧ SqL K H a (ns.map V.int) ∧ ∀ v, Q (.int v) H
theorem ok_law_cell_at (T : Txt K mg) : FnOk P w K mg base CX0 1 T.a_law_cell_at T.d_law_cell_at ["script", "k"] (spCell K) := by
  refine T.F_law_cell_at.ok sc_law_cell_at (fun vs H Q E h => ?_) (fun cdv A outer s H vs Q E hr h => ?_)
  · obtain ⟨a, k, ns, rfl, _⟩ := h; rfl
  · obtain ⟨a, k, ns, rfl, hS, q⟩ := h
    refine ⟨_, (pss_cons (ps_if (pt_cmpR op_lt (pv 1) (pe_callB call_len_seq (by rfl) T.z_len (by decide +kernel) (pa_cons (pv 0) pa_nil)) (nomark _))
  (pss_one (ps_ret (pe_ix ix_list (pv 0) (pv 1) (fun _ _ => rfl))))
  pss_nil)
  (pss_one (ps_ret pe_int))), ?_⟩
    refine ⟨.int k, rfl, .ref a, rfl, a, _, rfl, .inl hS, _, _, rfl, rfl, _, rfl, ite2 (fun e => ?_) (fun e => ?_)⟩
    · have hk : k < ns.length := by
        have := of_decide_eq_true e
        rw [List.length_map] at this
        omega
      refine ⟨.ref a, rfl, .int k, rfl, a, _, _, .int ns[k], rfl, rfl, hS, atI_nat ?_, q _⟩
      rw [List.getElem?_map, List.getElem?_eq_getElem hk]
      rfl
    · exact q 0
/-- a pool of at most n draws so far -/
def Pool (H : Hp) (a : Addr) (n : Int) : Prop := ∃ p0 p1 p2 : Int, H a = some (.lst [.int p0, .int p1, .int p2]) ∧ 0 ≤ p0 ∧ 0 ≤ p1 ∧ p1 < 2147483629 ∧ 0 ≤ p2 ∧ p2 ≤ n
theorem Pool.mono {H : Hp} {a : Addr} {n m : Int} (h : Pool H a n) (l : n ≤ m) : Pool H a m := by
  obtain ⟨p0, p1, p2, e, h0, h1, h2, h3, h4⟩ := h
  exact ⟨p0, p1, p2, e, h0, h1, h2, h3, by omega⟩
theorem Pool.same {H H' : Hp} {a : Addr} {n : Int} (h : Pool H a n) (s : Same H H') : Pool H' a n := by
  obtain ⟨p0, p1, p2, e, r⟩ := h
  exact ⟨p0, p1, p2, s _ _ e, r⟩
theorem Pool.nofrz {H : Hp} {a : Addr} {n : Int} (h : Pool H a n) : ∀ o u, H a ≠ some (.frz o u) := fun o u z => by
  obtain ⟨p0, p1, p2, e, _⟩ := h
  rw [e] at z; cases z
theorem fmod_lt {i j : Int} (h : 0 < j) : 0 ≤ i.fmod j ∧ i.fmod j < j := by
  rw [Int.fmod_eq_emod_of_nonneg i (by omega)]
  exact ⟨Int.emod_nonneg i (by omega), Int.emod_lt_of_pos i h⟩
def spPool : Sp := fun vs H Q _ => ∃ (c k : Int), vs = [.int c, .int k] ∧ 0 ≤ k ∧ k ≤ 63 ∧ ∀ p H', H p = none → Same H H' → But p H H' → Pool H' p 0 → Q (.ref p) H'
theorem ok_law_pool (T : Txt K mg) : FnOk P w K mg base CX0 1 T.a_law_pool T.d_law_pool ["cell", "place"] spPool := by
  refine T.F_law_pool.ok sc_law_pool (fun vs H Q E h => ?_) (fun cdv A outer s H vs Q E hr h => ?_)
  · obtain ⟨c, k, rfl, _⟩ := h; rfl
  · obtain ⟨c, k, rfl, k0, k1, q⟩ := h
    refine ⟨_, (pss_one (ps_ret (pe_lst (pa_cons (pe_callB (call_max2 rfl) (by rfl) T.z_max (by decide +kernel) (pa_cons (pe_op op_sub (pv 0) (pe_op op_powW pe_int pe_int)) (pa_cons pe_int pa_nil))) (pa_cons (pe_op op_modN (pe_op op_add (pe_op op_modN (pv 0) pe_int) (pe_op op_mulW pe_int (pv 1))) pe_int) (pa_cons pe_int pa_nil)))))), ?_⟩
    refine ⟨.int c, rfl, 10, 18, rfl, rfl, ⟨by decide, by decide⟩, c, _, rfl, rfl, _, _, rfl, .int c, rfl, c, _, rfl, rfl, (by show (2147483629 : Int) ≠ 0; decide), .int k, rfl, 51001, k, rfl, rfl, ?_, _, _, rfl, rfl, _, _, rfl, rfl, (by show (2147483629 : Int) ≠ 0; decide), (by show 3 ≤ sizeLine; decide), fun p np => ?_⟩
    · exact wide_mul (a := 20) (b := 20) (by decide) (by omega) (by decide) (by decide) (by decide)
    · refine q p _ np (same_new _ np) (But.upd _ _ _) ⟨_, _, 0, upd_same, ?_, (fmod_lt (by decide)).1, (fmod_lt (by decide)).2, by decide, by decide⟩
      show 0 ≤ (if (0 : Int) > c - 10 ^ (18 : Int).toNat then (0 : Int) else c - 10 ^ (18 : Int).toNat)
      split <;> omega
def spDraw : Sp := fun vs H Q _ => ∃ (a : Addr) (m n : Int), vs = [.ref a, .int m] ∧ Pool H a n ∧ n ≤ 1000000 ∧ 1 ≤ m ∧ m ≤ 10000000000000000000000000000000 ∧ ∀ r H', But a H H' → Pool H' a (n + 1) → 0 ≤ r → r < m → Q (.int r) H'
theorem ok_law_draw (T : Txt K mg) : FnOk P w K mg base CX0 1 T.a_law_draw T.d_law_draw ["pool", "many"] spDraw := by
  refine T.F_law_draw.ok sc_law_draw (fun vs H Q E h => ?_) (fun cdv A outer s H vs Q E hr h => ?_)
  · obtain ⟨a, m, n, rfl, _⟩ := h; rfl
  · obtain ⟨a, m, n, rfl, ⟨p0, p1, p2, e, h0, h1, h2, h3, h4⟩, hn, m1, m2, q⟩ := h
    refine ⟨_, (pss_cons (ps_asg (pe_op op_add (pe_ix ix_list (pv 0) pe_int (fun _ _ => rfl)) pe_int) (pg_sub (pv 0) pe_int set_list))
  (pss_cons (ps_set (i := 2) sc_law_draw.nd rfl (.inl rfl) (pe_op op_modN (pe_op op_powW (pe_op op_add (pe_op op_add (pe_ix ix_list (pv 0) pe_int (fun _ _ => rfl)) (pe_op op_mulW (pe_op op_mulW pe_int (pe_ix ix_list (pv 0) pe_int (fun _ _ => rfl))) (pe_ix ix_list (pv 0) pe_int (fun _ _ => rfl)))) pe_int) pe_int) pe_int))
  (pss_cons (ps_asg (pe_op op_modN (pe_op op_add (pe_op op_mulW (pv 2) pe_int) (pe_op op_mulW pe_int (pe_ix ix_list (pv 0) pe_int (fun _ _ => rfl)))) pe_int) (pg_sub (pv 0) pe_int set_list))
  (pss_cons (ps_set (i := 3) sc_law_draw.nd rfl (.inl rfl) (pe_op op_modN (pe_op op_fdivW (pe_ix ix_list (pv 0) pe_int (fun _ _ => rfl)) pe_int) (pv 1)))
  (pss_cons (ps_if (pt_cmpR op_gt (pe_ix ix_list (pv 0) pe_int (fun _ _ => rfl)) pe_int (nomark _))
  (pss_cons (ps_set (i := 3) sc_law_draw.nd rfl (.inl rfl) (pe_op op_modN (pe_ix ix_list (pv 0) pe_int (fun _ _ => rfl)) (pv 1)))
  (pss_one (ps_asg (pe_op op_fdivW (pe_ix ix_list (pv 0) pe_int (fun _ _ => rfl)) (pv 1)) (pg_sub (pv 0) pe_int set_list))))
  pss_nil)
  (pss_one (ps_ret (pv 3)))))))), ?_⟩
    -- pool[2] = pool[2] + 1
    refine ⟨.ref a, rfl, a, _, 2, .int p2, rfl, rfl, SqL.of e, rfl, p2, 1, rfl, rfl, .ref a, rfl, a, _, 2, 2, rfl, rfl, e, rfl, ?_⟩
    have e1 : (upd H a (.lst [.int p0, .int p1, .int (p2 + 1)])) a = some (.lst [.int p0, .int p1, .int (p2 + 1)]) := upd_same
    have hq : (p2 + 1) * (p2 + 1) ≤ 2000000 * 2000000 := Int.mul_le_mul (by omega) (by omega) (by omega) (by omega)
    have hq0 : 0 ≤ (p2 + 1) * (p2 + 1) := Int.mul_nonneg (by omega) (by omega)
    have e7 : 7 * (p2 + 1) * (p2 + 1) = 7 * ((p2 + 1) * (p2 + 1)) := Int.mul_assoc ..
    -- stir
    refine ⟨.ref a, rfl, a, _, 1, .int p1, rfl, rfl, SqL.of e1, rfl, .ref a, rfl, a, _, 2, .int (p2 + 1), rfl, rfl, SqL.of e1, rfl, 7, p2 + 1, rfl, rfl, ?_, .ref a, rfl, a, _, 2, .int (p2 + 1), rfl, rfl, SqL.of e1, rfl, 7 * (p2 + 1), p2 + 1, rfl, rfl, ?_, p1, 7 * (p2 + 1) * (p2 + 1), rfl, rfl, p1 + 7 * (p2 + 1) * (p2 + 1), 1, rfl, rfl, p1 + 7 * (p2 + 1) * (p2 + 1) + 1, 2, rfl, rfl, ?_, _, 2147483587, rfl, rfl, (by show (2147483587 : Int) ≠ 0; decide), ?_⟩
    · exact wide_mul (a := 20) (b := 60) (by decide) (by omega) (by decide) (by decide) (by decide)
    · exact wide_mul (a := 60) (b := 60) (by omega) (by omega) (by decide) (by decide) (by decide)
    · refine ⟨by decide, ?_⟩
      have := bits_le (x := p1 + 7 * (p2 + 1) * (p2 + 1) + 1) (b := 60) (by omega) (by decide)
      omega
    · have hs := fmod_lt (i := (p1 + 7 * (p2 + 1) * (p2 + 1) + 1) ^ (2 : Int).toNat) (j := 2147483587) (by decide)
      generalize (p1 + 7 * (p2 + 1) * (p2 + 1) + 1) ^ (2 : Int).toNat = big1 at hs ⊢
      -- pool[1] = ..
      refine ⟨_, rfl, _, 69621, rfl, rfl, ?_, .ref a, rfl, a, _, 2, .int (p2 + 1), rfl, rfl, SqL.of e1, rfl, 40692, p2 + 1, rfl, rfl, ?_, _, _, rfl, rfl, _, 2147483629, rfl, rfl, (by show (2147483629 : Int) ≠ 0; decide), .ref a, rfl, a, _, 1, 1, rfl, rfl, e1, rfl, ?_⟩
      · exact wide_mul (a := 60) (b := 60) (by omega) (by omega) (by decide) (by decide) (by decide)
      · exact wide_mul (a := 60) (b := 60) (by omega) (by omega) (by decide) (by decide) (by decide)
      · have hp := fmod_lt (i := big1.fmod 2147483587 * 69621 + 40692 * (p2 + 1)) (j := 2147483629) (by decide)
        generalize big1.fmod 2147483587 * 69621 + 40692 * (p2 + 1) = big2 at hp ⊢
        generalize hx : big2.fmod 2147483629 = x1 at hp
        have b2 : But a H (upd (upd H a (.lst [.int p0, .int p1, .int (p2 + 1)])) a (.lst [.int p0, .int x1, .int (p2 + 1)])) := (But.upd _ _ _).trans (But.upd _ _ _)
        have e2 : (upd (upd H a (.lst [.int p0, .int p1, .int (p2 + 1)])) a (.lst [.int p0, .int x1, .int (p2 + 1)])) a = some (.lst [.int p0, .int x1, .int (p2 + 1)]) := upd_same
        have hx' : V.int (big2.fmod 2147483629) = V.int x1 := by rw [hx]
        show tSeq _ _ _ _ (upd (upd H a _) a (.lst [.int p0, .int (big2.fmod 2147483629), .int (p2 + 1)]))
        rw [hx']
        -- found
        refine ⟨.ref a, rfl, a, _, 1, .int x1, rfl, rfl, SqL.of e2, rfl, x1, 64, rfl, rfl, fdivW (by decide) (by decide), .int m, rfl, _, m, rfl, rfl, (by show m ≠ 0; omega), ?_⟩
        refine ⟨.ref a, rfl, a, _, 0, .int p0, rfl, rfl, SqL.of e2, rfl, p0, 0, rfl, rfl, _, rfl, ite2 (fun hc => ?_) (fun hc => ?_)⟩
        · -- the cell's own digits
          have hm := fmod_lt (i := p0) (j := m) (by omega)
          refine ⟨.ref a, rfl, a, _, 0, .int p0, rfl, rfl, SqL.of e2, rfl, .int m, rfl, p0, m, rfl, rfl, (by show m ≠ 0; omega), ?_⟩
          refine ⟨.ref a, rfl, a, _, 0, .int p0, rfl, rfl, SqL.of e2, rfl, .int m, rfl, p0, m, rfl, rfl, fdivW (by omega) (by omega), .ref a, rfl, a, _, 0, 0, rfl, rfl, e2, rfl, ?_⟩
          exact ⟨_, rfl, q _ _ (b2.trans (But.upd _ _ _)) ⟨p0 / m, x1, p2 + 1, upd_same, Int.ediv_nonneg h0 (by omega), hp.1, hp.2, by omega, by omega⟩ hm.1 hm.2⟩
        · have hm := fmod_lt (i := x1 / 64) (j := m) (by omega)
          exact ⟨_, rfl, q _ _ b2 ⟨p0, x1, p2 + 1, e2, h0, hp.1, hp.2, by omega, by omega⟩ hm.1 hm.2⟩
end

section
variable {P : Program} {w : World} {K : PySem.W.Frag} {mg : Str → Option Value} {base : Heap}
/-- a list that is filled with draws -/
def PvD (a D : Addr) (H0 : Hp) (n lo hi : Int) (i : Nat) (H' : Hp) : Prop :=
  ∃ bs : List Int, But a H0 H' ∧ Pool H' a (n + i) ∧ H' D = some (.lst (bs.map V.int)) ∧ bs.length = i ∧ ∀ b ∈ bs, lo ≤ b ∧ b ≤ hi
theorem Pool.at {H : Hp} {a : Addr} {n : Int} (h : Pool H a n) : ∃ o, H a = some o := by
  obtain ⟨_, _, _, e, _⟩ := h
  exact ⟨_, e⟩
theorem PvD.start {a D : Addr} {H0 : Hp} {n lo hi : Int} (hP : Pool H0 a n) (nD : H0 D = none) : PvD a D H0 n lo hi 0 (upd H0 D (.lst [])) := by
  refine ⟨[], But.of (same_new _ nD), ?_, upd_same, rfl, fun b hb => by cases hb⟩
  exact (hP.same (same_new _ nD)).mono (by omega)
theorem PvD.step {a D : Addr} {H0 H' H4 : Hp} {n lo hi y : Int} {i : Nat} (h : PvD a D H0 n lo hi i H') (hP : Pool H0 a n) (nD : H0 D = none) (hi' : i ≤ 1000) (b : But a H' H4) (p : Pool H4 a (n + i + 1)) (h1 : lo ≤ y) (h2 : y ≤ hi) :
    ∃ acc, H4 D = some (.lst acc) ∧ acc.length < sizeLine ∧ PvD a D H0 n lo hi (i + 1) (upd H4 D (.lst (acc ++ [.int y]))) := by
  obtain ⟨bs, b0, p0, e, l, al⟩ := h
  have nDa : D ≠ a := fun z => by
    obtain ⟨o, eo⟩ := hP.at
    rw [z] at nD; rw [nD] at eo; cases eo
  refine ⟨bs.map V.int, b _ _ nDa e, ?_, bs ++ [y], ?_, ?_, ?_, ?_, fun z hz => ?_⟩
  · rw [List.length_map, l]; exact small_of hi' (by decide)
  · intro c o nc ec
    have : c ≠ D := ne_of_none ec nD
    rw [upd_ne this]
    exact b _ _ nc (b0 _ _ nc ec)
  · obtain ⟨p0, p1, p2, ep, r1, r2, r3, r4, r5⟩ := p
    refine ⟨p0, p1, p2, ?_, r1, r2, r3, r4, by omega⟩
    rw [upd_ne (Ne.symm nDa)]
    exact ep
  · rw [upd_same, List.map_append]; rfl
  · rw [List.length_append, l]; rfl
  · rcases List.mem_append.mp hz with hz | hz
    · exact al z hz
    · rw [List.mem_singleton.mp hz]; exact ⟨h1, h2⟩
theorem le_big {r : Int} (h : r ≤ 1000000000000000000000000000000) : r ≤ big := h
theorem big_ab {r : Int} (h : -10 ≤ r) (h1 : r ≤ big) : r.natAbs < 10 ^ 90 := by
  have e : (10 : Nat) ^ 40 = 10000000000000000000000000000000000000000 := by decide +kernel
  have h2 : r ≤ 1000000000000000000000000000000 := h1
  have h3 : r.natAbs < 10 ^ 40 := by rw [e]; omega
  exact Nat.lt_of_lt_of_le h3 (Nat.pow_le_pow_right (by decide) (by decide))
theorem atI_pick {xs : List V} {r : Int} (h0 : 0 ≤ r) (h1 : r < xs.length) : ∃ v ∈ xs, atI xs r = some v := by
  obtain ⟨k, rfl⟩ := Int.eq_ofNat_of_zero_le h0
  have hk : k < xs.length := by omega
  exact ⟨xs[k], List.getElem_mem hk, atI_nat (List.getElem?_eq_getElem hk)⟩
theorem pick_int {ns : List Int} {r lo hi : Int} (h0 : 0 ≤ r) (h1 : r < ns.length) (hb : ∀ n ∈ ns, lo ≤ n ∧ n ≤ hi) : ∃ m, atI (ns.map V.int) r = some (.int m) ∧ lo ≤ m ∧ m ≤ hi := by
  obtain ⟨v, hv, e⟩ := atI_pick (xs := ns.map V.int) h0 (by rw [List.length_map]; exact h1)
  obtain ⟨m, hm, rfl⟩ := List.mem_map.mp hv
  exact ⟨m, e, hb m hm⟩
theorem Pool.ne {H : Hp} {a p : Addr} {n : Int} (h : Pool H a n) (np : H p = none) : p ≠ a := fun z => by
  obtain ⟨o, eo⟩ := h.at
  rw [z] at np; rw [np] at eo; cases eo
def spBegun (K : PySem.W.Frag) : Sp := fun vs H Q _ => ∃ (a s : Addr) (n : Int) (ns : List Int), vs = [.ref a, .ref s] ∧ Pool H a n ∧ n ≤ 900000 ∧ Scr K H s (ns.map V.int) ∧
  ∀ p H' (bs : List Int), H p = none → But a H H' → Pool H' a (n + 40) → H' p = some (.lst (bs.map V.int)) → IsStart bs → Q (.ref p) H'
theorem ok_law_begun (T : Txt K mg) : FnOk P w K mg base CX0 2 T.a_law_begun T.d_law_begun ["pool", "script"] (spBegun K) := by
  refine T.F_law_begun.ok sc_law_begun (fun vs H Q E h => ?_) (fun cdv A outer s0 H vs Q E hr h => ?_)
  · obtain ⟨a, s, n, ns, rfl, _⟩ := h; rfl
  · obtain ⟨a, s, n, ns, rfl, hP, hn, hS, q⟩ := h
    refine ⟨_, (pss_cons (ps_if (pt_cmpR (op_eqD hr.units) (pv 1) (pe_lst pa_nil) (nomark _))
  (pss_one (ps_ret (pe_lc (own := [("k", 4)]) rfl sc_law_begun.nd (pi_range1 (by rfl) T.z_range (pa_cons pe_int pa_nil)) (blkOk_by (own := [("k", 4)]) (N := nm_law_begun) (sc := defScope s_law_begun) (by decide +kernel)) (fun _ _ _ _ _ => (pg_name (i := 4) sc_law_begun.nd rfl (.inl rfl))) (fun _ _ _ _ _ => pts_nil) (fun _ _ _ _ _ => (pe_call (ok_law_draw T) hr (by rfl) T.g_law_draw T.F_law_draw.kp T.b_law_draw .nil pass0 (pa_cons (pv 0) (pa_cons pe_int pa_nil)))))))
  pss_nil)
  (pss_cons (ps_set (i := 2) sc_law_begun.nd rfl (.inl rfl) (pe_ix ix_list (pe_lst (pa_cons (pe_op op_add pe_int (pe_call (ok_law_draw T) hr (by rfl) T.g_law_draw T.F_law_draw.kp T.b_law_draw .nil pass0 (pa_cons (pv 0) (pa_cons pe_int pa_nil)))) (pa_cons (pe_op op_add pe_int (pe_call (ok_law_draw T) hr (by rfl) T.g_law_draw T.F_law_draw.kp T.b_law_draw .nil pass0 (pa_cons (pv 0) (pa_cons pe_int pa_nil)))) (pa_cons pe_int pa_nil)))) (pe_call (ok_law_draw T) hr (by rfl) T.g_law_draw T.F_law_draw.kp T.b_law_draw .nil pass0 (pa_cons (pv 0) (pa_cons pe_int pa_nil))) (fun _ _ => rfl)))
  (pss_cons (ps_set (i := 3) sc_law_begun.nd rfl (.inr rfl) (pe_ix ix_list (pe_lst (pa_cons pe_int (pa_cons pe_int (pa_cons pe_int (pa_cons (pe_op op_add (pe_op op_powW pe_int pe_int) pe_int) pa_nil))))) (pe_call (ok_law_draw T) hr (by rfl) T.g_law_draw T.F_law_draw.kp T.b_law_draw .nil pass0 (pa_cons (pv 0) (pa_cons pe_int pa_nil))) (fun _ _ => rfl)))
  (pss_one (ps_ret (pe_lc (own := [("k", 4)]) rfl sc_law_begun.nd (pi_range1 (by rfl) T.z_range (pa_cons (pv 2) pa_nil)) (blkOk_by (own := [("k", 4)]) (N := nm_law_begun) (sc := defScope s_law_begun) (by decide +kernel)) (fun _ _ _ _ _ => (pg_name (i := 4) sc_law_begun.nd rfl (.inl rfl))) (fun _ _ _ _ _ => pts_nil) (fun _ _ _ _ _ => (pe_call (ok_law_draw T) hr (by rfl) T.g_law_draw T.F_law_draw.kp T.b_law_draw .nil pass0 (pa_cons (pv 0) (pa_cons (pv 3) pa_nil)))))))))), ?_⟩
    refine ⟨.ref s, rfl, Nat.zero_le _, fun o no => ⟨_, _, .lst ((hS.same (same_new _ no)).sq) (dpInts ns), .lst (SqL.of upd_same) .nil, shapedInts ns, rfl, _, rfl, ?_⟩⟩
    generalize PyData.eqv _ _ = tt
    have s0 : Same H (upd H o (.lst [])) := same_new _ no
    generalize upd H o (.lst []) = H1 at s0 ⊢
    have P1 : Pool H1 a n := hP.same s0
    cases tt with
    | true =>
      refine ⟨3, rfl, by decide, by decide, fun D nD => ?_⟩
      refine lc_range (lo := 0) (n := 3) (PvD a D H1 n 0 big) (PvD.start P1 nD) (fun i H' hi h => ⟨rfl, ?_⟩) (fun H' h => ?_)
      · have h' := h
        obtain ⟨bs, b0, p0, e, l, al⟩ := h
        exact ⟨.ref a, rfl, a, 3, _, rfl, p0, by omega, by decide, by decide, fun r H4 b p r0 r1 => h'.step P1 nD (by omega) b p r0 (le_big (by omega))⟩
      · obtain ⟨bs, b0, p0, e, l, al⟩ := h
        exact q D H' bs (s0.free nD) ((But.of s0).trans b0) (p0.mono (by omega)) e ⟨by omega, al⟩
    | false =>
      -- many
      refine ⟨.ref a, rfl, a, 5, n, rfl, P1, by omega, by decide, by decide, fun r1 H2 b2 p2 r10 r11 => ⟨1, r1, rfl, rfl, ?_⟩⟩
      refine ⟨.ref a, rfl, a, 30, _, rfl, p2, by omega, by decide, by decide, fun r2 H3 b3 p3 r20 r21 => ⟨1, r2, rfl, rfl, (by show 3 ≤ sizeLine; decide), fun o3 n3 => ?_⟩⟩
      have s3 := same_new (H := H3) (p := o3) (.lst [.int (1 + r1), .int (1 + r2), .int 30]) n3
      refine ⟨.ref a, rfl, a, 3, _, rfl, p3.same s3, by omega, by decide, by decide, fun r3 H4 b4 p4 r30 r31 => ?_⟩
      obtain ⟨m, em, m0, m1⟩ := pick_int (ns := [1 + r1, 1 + r2, 30]) (lo := 1) (hi := 30) r30 r31 (fun z hz => by
        simp only [List.mem_cons, List.not_mem_nil, or_false] at hz
        rcases hz with rfl | rfl | rfl <;> omega)
      refine ⟨o3, _, _, .int m, rfl, rfl, SqL.of (b4 _ _ (p3.ne n3) upd_same), em, ?_⟩
      have B4 : But a H1 H4 := (b2.trans b3).trans ((But.of s3).trans b4)
      -- wide
      refine ⟨10, 30, rfl, rfl, ⟨by decide, by decide⟩, _, 1, rfl, rfl, (by show 4 ≤ sizeLine; decide), fun o5 n5 => ?_⟩
      have s5 := same_new (H := H4) (p := o5) (.lst [.int 1, .int 3, .int 12, .int (10 ^ (30 : Int).toNat + 1)]) n5
      refine ⟨.ref a, rfl, a, 4, _, rfl, p4.same s5, by omega, by decide, by decide, fun r5 H6 b6 p6 r50 r51 => ?_⟩
      have eb : ((10 : Int) ^ (30 : Int).toNat + 1) = 1000000000000000000000000000001 := by decide +kernel
      obtain ⟨wd, ew, w0, w1⟩ := pick_int (ns := [1, 3, 12, 10 ^ (30 : Int).toNat + 1]) (lo := 1) (hi := 1000000000000000000000000000001) r50 r51 (fun z hz => by
        simp only [List.mem_cons, List.not_mem_nil, or_false] at hz
        rw [eb] at hz
        rcases hz with rfl | rfl | rfl | rfl <;> omega)
      refine ⟨o5, _, _, .int wd, rfl, rfl, SqL.of (b6 _ _ (p4.ne n5) upd_same), ew, ?_⟩
      have B6 : But a H1 H6 := B4.trans ((But.of s5).trans b6)
      have P6 : Pool H6 a (n + 4) := p6.mono (by omega)
      have iO : ∀ {D}, H6 D = none → H D = none := fun {D} nD => by
        have h1 : H1 D = none := by
          cases e : H1 D with
          | none => rfl
          | some u =>
            have : D ≠ a := fun z => by
              obtain ⟨o, eo⟩ := P6.at
              rw [z] at nD; rw [nD] at eo; cases eo
            rw [B6 _ _ this e] at nD; cases nD
        exact s0.free h1
      refine ⟨.int m, rfl, m, rfl, by omega, by omega, fun D nD => ?_⟩
      refine lc_range (lo := 0) (n := m.toNat) (PvD a D H6 (n + 4) 0 big) (PvD.start P6 nD) (fun i H' hi h => ⟨rfl, ?_⟩) (fun H' h => ?_)
      · have h' := h
        obtain ⟨bs, b0, p0, e, l, al⟩ := h
        exact ⟨.ref a, rfl, .int wd, rfl, a, wd, _, rfl, p0, by omega, w0, by omega, fun r H4 b p r0 r1 => h'.step P6 nD (by omega) b p r0 (le_big (by omega))⟩
      · obtain ⟨bs, b0, p0, e, l, al⟩ := h
        exact q D H' bs (iO nD) ((But.of s0).trans (B6.trans b0)) (p0.mono (by omega)) e ⟨by omega, al⟩
theorem but_set {a D : Addr} {H H' : Hp} {o : HO} (b : But a H H') (n : H D = none) : But a H (upd H' D o) := fun c u nc e => by
  rw [upd_ne (ne_of_none e n)]
  exact b _ _ nc e
theorem Pool.upd {H : Hp} {a D : Addr} {o : HO} {n : Int} (h : Pool H a n) (ne : a ≠ D) : Pool (L2.upd H D o) a n := by
  obtain ⟨p0, p1, p2, e, r⟩ := h
  exact ⟨p0, p1, p2, by rw [upd_ne ne]; exact e, r⟩
theorem But.free {H H' : Hp} {a D : Addr} {n : Int} (b : But a H H') (p : Pool H' a n) (nD : H' D = none) : H D = none := by
  cases e : H D with
  | none => rfl
  | some u =>
    have : D ≠ a := p.ne nD
    rw [b _ _ this e] at nD; cases nD
def spCards (K : PySem.W.Frag) : Sp := fun vs H Q _ => ∃ (a s : Addr) (n : Int) (ns : List Int), vs = [.ref a, .ref s] ∧ Pool H a n ∧ n ≤ 900000 ∧ Scr K H s (ns.map V.int) ∧
  ∀ p H' (bs : List Int), H p = none → But a H H' → Pool H' a (n + 300) → H' p = some (.lst (bs.map V.int)) → IsCards bs → Q (.ref p) H'
theorem ok_law_cards (T : Txt K mg) : FnOk P w K mg base CX0 2 T.a_law_cards T.d_law_cards ["pool", "script"] (spCards K) := by
  refine T.F_law_cards.ok sc_law_cards (fun vs H Q E h => ?_) (fun cdv A outer s0 H vs Q E hr h => ?_)
  · obtain ⟨a, s, n, ns, rfl, _⟩ := h; rfl
  · obtain ⟨a, s, n, ns, rfl, hP, hn, hS, q⟩ := h
    refine ⟨_, (pss_cons (ps_if (pt_cmpR (op_eqD hr.units) (pv 1) (pe_lst pa_nil) (nomark _))
  (pss_one (ps_ret (pe_lc (own := [("k", 6)]) rfl sc_law_cards.nd (pi_range1 (by rfl) T.z_range (pa_cons pe_int pa_nil)) (blkOk_by (own := [("k", 6)]) (N := nm_law_cards) (sc := defScope s_law_cards) (by decide +kernel)) (fun _ _ _ _ _ => (pg_name (i := 6) sc_law_cards.nd rfl (.inl rfl))) (fun _ _ _ _ _ => pts_nil) (fun _ _ _ _ _ => (pe_op op_add pe_int (pe_call (ok_law_draw T) hr (by rfl) T.g_law_draw T.F_law_draw.kp T.b_law_draw .nil pass0 (pa_cons (pv 0) (pa_cons pe_int pa_nil))))))))
  pss_nil)
  (pss_cons (ps_set (i := 2) sc_law_cards.nd rfl (.inl rfl) (pe_ix ix_list (pe_lst (pa_cons (pe_call (ok_law_draw T) hr (by rfl) T.g_law_draw T.F_law_draw.kp T.b_law_draw .nil pass0 (pa_cons (pv 0) (pa_cons pe_int pa_nil))) (pa_cons (pe_call (ok_law_draw T) hr (by rfl) T.g_law_draw T.F_law_draw.kp T.b_law_draw .nil pass0 (pa_cons (pv 0) (pa_cons pe_int pa_nil))) (pa_cons pe_int pa_nil)))) (pe_call (ok_law_draw T) hr (by rfl) T.g_law_draw T.F_law_draw.kp T.b_law_draw .nil pass0 (pa_cons (pv 0) (pa_cons pe_int pa_nil))) (fun _ _ => rfl)))
  (pss_cons (ps_set (i := 3) sc_law_cards.nd rfl (.inr rfl) (pe_ix ix_list (pe_lst (pa_cons pe_int (pa_cons pe_int (pa_cons pe_int (pa_cons pe_int (pa_cons (pe_op op_powW pe_int pe_int) pa_nil)))))) (pe_call (ok_law_draw T) hr (by rfl) T.g_law_draw T.F_law_draw.kp T.b_law_draw .nil pass0 (pa_cons (pv 0) (pa_cons pe_int pa_nil))) (fun _ _ => rfl)))
  (pss_cons (ps_par (i := 4) (j := 5) rfl sc_law_cards.nd rfl rfl (by decide) rfl rfl (pa_cons (pe_lc (own := [("k", 6)]) rfl sc_law_cards.nd (pi_range1 (by rfl) T.z_range (pa_cons (pv 2) pa_nil)) (blkOk_by (own := [("k", 6)]) (N := nm_law_cards) (sc := defScope s_law_cards) (by decide +kernel)) (fun _ _ _ _ _ => (pg_name (i := 6) sc_law_cards.nd rfl (.inl rfl))) (fun _ _ _ _ _ => pts_nil) (fun _ _ _ _ _ => (pe_op op_add pe_int (pe_call (ok_law_draw T) hr (by rfl) T.g_law_draw T.F_law_draw.kp T.b_law_draw .nil pass0 (pa_cons (pv 0) (pa_cons (pv 3) pa_nil)))))) (pa_cons (pe_call (ok_law_draw T) hr (by rfl) T.g_law_draw T.F_law_draw.kp T.b_law_draw .nil pass0 (pa_cons (pv 0) (pa_cons pe_int pa_nil))) pa_nil)) (by rfl))
  (pss_cons (ps_if (PW.pt (pw_and (pt_cmpR (op_neD hr.units) (pv 4) (pe_lst pa_nil) (nomark _)) (pw_and1 (pt_cmpR op_eq (pv 5) pe_int (nomark _)))))
  (pss_one (ps_asg (pe_op op_add pe_int (pe_call (ok_law_draw T) hr (by rfl) T.g_law_draw T.F_law_draw.kp T.b_law_draw .nil pass0 (pa_cons (pv 0) (pa_cons (pe_op op_powW pe_int pe_int) pa_nil)))) (pg_sub (pv 4) (pe_call (ok_law_draw T) hr (by rfl) T.g_law_draw T.F_law_draw.kp T.b_law_draw .nil pass0 (pa_cons (pv 0) (pa_cons (pv 2) pa_nil))) set_list)))
  pss_nil)
  (pss_one (ps_ret (pv 4)))))))), ?_⟩
    refine ⟨.ref s, rfl, Nat.zero_le _, fun o no => ⟨_, _, .lst ((hS.same (same_new _ no)).sq) (dpInts ns), .lst (SqL.of upd_same) .nil, shapedInts ns, rfl, _, rfl, ?_⟩⟩
    generalize PyData.eqv _ _ = tt
    have s0 : Same H (upd H o (.lst [])) := same_new _ no
    generalize upd H o (.lst []) = H1 at s0 ⊢
    have P1 : Pool H1 a n := hP.same s0
    cases tt with
    | true =>
      refine ⟨5, rfl, by decide, by decide, fun D nD => ?_⟩
      refine lc_range (lo := 0) (n := 5) (PvD a D H1 n 1 big) (PvD.start P1 nD) (fun i H' hi h => ⟨rfl, ?_⟩) (fun H' h => ?_)
      · have h' := h
        obtain ⟨bs, b0, p0, e, l, al⟩ := h
        exact ⟨.ref a, rfl, a, 4, _, rfl, p0, by omega, by decide, by decide, fun r H4 b p r0 r1 => ⟨1, r, rfl, rfl, h'.step P1 nD (by omega) b p (by show 1 ≤ 1 + r; omega) (le_big (by show 1 + r ≤ _; omega))⟩⟩
      · obtain ⟨bs, b0, p0, e, l, al⟩ := h
        exact q D H' bs (s0.free nD) ((But.of s0).trans b0) (p0.mono (by omega)) e ⟨by omega, al⟩
    | false =>
      -- many
      refine ⟨.ref a, rfl, a, 9, n, rfl, P1, by omega, by decide, by decide, fun r1 H2 b2 p2 r10 r11 => ?_⟩
      refine ⟨.ref a, rfl, a, 201, _, rfl, p2, by omega, by decide, by decide, fun r2 H3 b3 p3 r20 r21 => ⟨(by show 3 ≤ sizeLine; decide), fun o3 n3 => ?_⟩⟩
      have s3 := same_new (H := H3) (p := o3) (.lst [.int r1, .int r2, .int 200]) n3
      refine ⟨.ref a, rfl, a, 3, _, rfl, p3.same s3, by omega, by decide, by decide, fun r3 H4 b4 p4 r30 r31 => ?_⟩
      obtain ⟨m, em, m0, m1⟩ := pick_int (ns := [r1, r2, 200]) (lo := 0) (hi := 200) r30 r31 (fun z hz => by
        simp only [List.mem_cons, List.not_mem_nil, or_false] at hz
        rcases hz with rfl | rfl | rfl <;> omega)
      refine ⟨o3, _, _, .int m, rfl, rfl, SqL.of (b4 _ _ (p3.ne n3) upd_same), em, ?_⟩
      have B4 : But a H1 H4 := (b2.trans b3).trans ((But.of s3).trans b4)
      -- wide
      refine ⟨10, 30, rfl, rfl, ⟨by decide, by decide⟩, (by show 5 ≤ sizeLine; decide), fun o5 n5 => ?_⟩
      have s5 := same_new (H := H4) (p := o5) (.lst [.int 1, .int 2, .int 5, .int 40, .int (10 ^ (30 : Int).toNat)]) n5
      refine ⟨.ref a, rfl, a, 5, _, rfl, p4.same s5, by omega, by decide, by decide, fun r5 H6 b6 p6 r50 r51 => ?_⟩
      have eb : ((10 : Int) ^ (30 : Int).toNat) = 1000000000000000000000000000000 := by decide +kernel
      obtain ⟨wd, ew, w0, w1⟩ := pick_int (ns := [1, 2, 5, 40, 10 ^ (30 : Int).toNat]) (lo := 1) (hi := 1000000000000000000000000000000) r50 r51 (fun z hz => by
        simp only [List.mem_cons, List.not_mem_nil, or_false] at hz
        rw [eb] at hz
        rcases hz with rfl | rfl | rfl | rfl | rfl <;> omega)
      refine ⟨o5, _, _, .int wd, rfl, rfl, SqL.of (b6 _ _ (p4.ne n5) upd_same), ew, ?_⟩
      have B6 : But a H1 H6 := B4.trans ((But.of s5).trans b6)
      have P6 : Pool H6 a (n + 4) := p6.mono (by omega)
      -- found, style
      refine ⟨.int m, rfl, m, rfl, by omega, by omega, fun D nD => ?_⟩
      have nDH : H D = none := s0.free (But.free B6 P6 nD)
      refine lc_range (lo := 0) (n := m.toNat) (PvD a D H6 (n + 4) 1 big) (PvD.start P6 nD) (fun i H' hi h => ⟨rfl, ?_⟩) (fun H' h => ?_)
      · have h' := h
        obtain ⟨bs, b0, p0, e, l, al⟩ := h
        exact ⟨.ref a, rfl, .int wd, rfl, a, wd, _, rfl, p0, by omega, w0, by omega, fun r H4 b p r0 r1 => ⟨1, r, rfl, rfl, h'.step P6 nD (by omega) b p (by show 1 ≤ 1 + r; omega) (le_big (by show 1 + r ≤ _; omega))⟩⟩
      · obtain ⟨bs, b0, p0, e, l, al⟩ := h
        have nDa : D ≠ a := P6.ne nD
        refine ⟨.ref a, rfl, a, 3, _, rfl, p0, by omega, by decide, by decide, fun r7 H7 b7 p7 r70 r71 => ⟨_, _, rfl, ?_⟩⟩
        have e7 : H7 D = some (.lst (bs.map V.int)) := b7 _ _ nDa e
        have B7 : But a H H7 := (But.of s0).trans (B6.trans (b0.trans b7))
        refine ⟨.ref D, rfl, Nat.zero_le _, fun o8 n8 => ⟨_, _, .lst (SqL.of (same_new _ n8 _ _ e7)) (dpInts bs), .lst (SqL.of upd_same) .nil, shapedInts bs, rfl, _, rfl, ?_⟩⟩
        have s8 := same_new (H := H7) (p := o8) (.lst []) n8
        have e8 := s8 _ _ e7
        have B8 : But a H (upd H7 o8 (.lst [])) := B7.trans (But.of s8)
        have p8 : Pool (upd H7 o8 (.lst [])) a (n + 300) := (p7.same s8).mono (by omega)
        have p8' : Pool (upd H7 o8 (.lst [])) a (n + 4 + m.toNat + 1) := p7.same s8
        generalize upd H7 o8 (.lst []) = H8 at s8 e8 B8 p8 p8' ⊢
        have ic : IsCards bs := ⟨by omega, al⟩
        cases bs with
        | nil => exact ⟨_, rfl, q D H8 [] nDH B8 p8 e8 ic⟩
        | cons x xs =>
          refine ⟨.int r7, rfl, rfl, _, rfl, ite2 (fun h1 => ?_) (fun h1 => ?_)⟩
          · have lm : ((x :: xs).length : Int) = m := by omega
            have lm1 : 1 ≤ m := by rw [← lm, List.length_cons]; omega
            refine ⟨.ref a, rfl, 10, 30, rfl, rfl, ⟨by decide, by decide⟩, a, 10 ^ (30 : Int).toNat, _, rfl, p8', by omega, by decide +kernel, by decide +kernel, fun r9 H9 b9 p9 r90 r91 => ⟨1, r9, rfl, rfl, ?_⟩⟩
            have e9 := b9 _ _ nDa e8
            rw [eb] at r91
            refine ⟨.ref D, rfl, .ref a, rfl, .int m, rfl, a, m, _, rfl, p9, by omega, lm1, by omega, fun r10 H10 b10 p10 r100 r101 => ?_⟩
            have e10 := b10 _ _ nDa e9
            obtain ⟨j, rfl⟩ := Int.eq_ofNat_of_zero_le r100
            have hj : j < ((x :: xs).map V.int).length := by rw [List.length_map]; omega
            refine ⟨D, _, _, j, rfl, rfl, e10, ixN_nat hj, ?_⟩
            refine ⟨_, rfl, q D _ ((x :: xs).set j (1 + r9)) nDH (but_set (B8.trans (b9.trans b10)) nDH) ((p10.upd nDa.symm).mono (by omega)) ?_ ⟨?_, fun z hz => ?_⟩⟩
            · rw [upd_same, List.map_set]
            · rw [List.length_set]; exact ic.len
            · rcases List.mem_or_eq_of_mem_set hz with hz | rfl
              · exact al z hz
              · exact ⟨by omega, le_big (by omega)⟩
          · exact ⟨_, rfl, q D H8 (x :: xs) nDH B8 p8 e8 ic⟩
end

section
variable {P : Program} {w : World} {K : PySem.W.Frag} {mg : Str → Option Value} {base : Heap}
/-- what is left and what is taken -/
def PvM (a D l : Addr) (H0 : Hp) (n : Int) (xs : List Int) (i : Nat) (H' : Hp) : Prop :=
  ∃ bs ls : List Int, But a H0 H' ∧ Pool H' a (n + i) ∧ H' D = some (.lst (bs.map V.int)) ∧ H' l = some (.lst (ls.map V.int)) ∧ bs.length = i ∧ (bs ++ ls).Perm xs
theorem erase_map : ∀ (ls : List Int) (j : Nat), (ls.map V.int).eraseIdx j = (ls.eraseIdx j).map V.int
  | [], _ => rfl
  | _ :: _, 0 => rfl
  | x :: ls, j + 1 => by
    show V.int x :: (ls.map V.int).eraseIdx j = V.int x :: (ls.eraseIdx j).map V.int
    rw [erase_map ls j]
theorem erase_perm : ∀ (ls : List Int) (j : Nat) (h : j < ls.length), (ls[j] :: ls.eraseIdx j).Perm ls
  | [], _, h => absurd h (by simp)
  | _ :: _, 0, _ => List.Perm.refl _
  | x :: ls, j + 1, h => by
    have h' : j < ls.length := by simpa using h
    show (ls[j] :: x :: ls.eraseIdx j).Perm (x :: ls)
    exact (List.Perm.swap x ls[j] _).trans ((erase_perm ls j h').cons x)
def spMixed (K : PySem.W.Frag) : Sp := fun vs H Q _ => ∃ (a b : Addr) (n : Int) (xs : List Int), vs = [.ref a, .ref b] ∧ Pool H a n ∧ n ≤ 900000 ∧ SqL K H b (xs.map V.int) ∧ xs.length ≤ 200 ∧
  ∀ p H' (ys : List Int), H p = none → But a H H' → Pool H' a (n + 300) → H' p = some (.lst (ys.map V.int)) → ys.Perm xs → Q (.ref p) H'
theorem ok_law_mixed (T : Txt K mg) : FnOk P w K mg base CX0 2 T.a_law_mixed T.d_law_mixed ["pool", "things"] (spMixed K) := by
  refine T.F_law_mixed.ok sc_law_mixed (fun vs H Q E h => ?_) (fun cdv A outer s0 H vs Q E hr h => ?_)
  · obtain ⟨a, b, n, xs, rfl, _⟩ := h; rfl
  · obtain ⟨a, b, n, xs, rfl, hP, hn, hS, hl, q⟩ := h
    refine ⟨_, (pss_cons (ps_set (i := 2) sc_law_mixed.nd rfl (.inr rfl) (pe_callTy call_list_of (by rfl) T.z_list (by decide +kernel) (pa_cons (pv 1) pa_nil)))
  (pss_one (ps_ret (pe_lc (own := [("k", 3)]) (te := tBM K "list" rPopAt (tVar 2) (tCons (tCall spDraw [] E0 (tCons (tVar 0) (tCons (tCB (rLenK K) (tCons (tVar 2) tNil)) tNil))) tNil)) rfl sc_law_mixed.nd (pi_range1 (by rfl) T.z_range (pa_cons (pe_callB call_len_seq (by rfl) T.z_len (by decide +kernel) (pa_cons (pv 1) pa_nil)) pa_nil)) (blkOk_by (own := [("k", 3)]) (N := nm_law_mixed) (sc := defScope s_law_mixed) (by decide +kernel)) (fun _ _ _ _ _ => (pg_name (i := 3) sc_law_mixed.nd rfl (.inl rfl))) (fun _ _ _ _ _ => pts_nil) (fun _ _ _ _ _ => (pe_bm PySem.F.plainAttrs_list PySem.F.slot_list_pop PySem.F.type_list_pop mt_popAt (pv 2) (pa_cons (pe_call (ok_law_draw T) hr (by rfl) T.g_law_draw T.F_law_draw.kp T.b_law_draw .nil pass0 (pa_cons (pv 0) (pa_cons (pe_callB call_len_seq (by rfl) T.z_len (by decide +kernel) (pa_cons (pv 2) pa_nil)) pa_nil))) pa_nil))))))), ?_⟩
    refine ⟨.ref b, rfl, b, _, rfl, .inl hS, fun l nl => ?_⟩
    have s1 := same_new (H := H) (p := l) (.lst (xs.map V.int)) nl
    have e1 : (upd H l (.lst (xs.map V.int))) l = some (.lst (xs.map V.int)) := upd_same
    have P1 : Pool (upd H l (.lst (xs.map V.int))) a n := hP.same s1
    have nla : l ≠ a := hP.ne nl
    have hS1 := s1.seq hS
    generalize upd H l (.lst (xs.map V.int)) = H1 at s1 e1 P1 hS1 ⊢
    refine ⟨.ref b, rfl, b, _, rfl, .inl hS1, ((xs.map V.int).length : Int), rfl, by omega, by rw [List.length_map]; omega, fun D nD => ?_⟩
    have nDl : l ≠ D := ne_of_none e1 nD
    have nDa : D ≠ a := P1.ne nD
    have nDH : H D = none := s1.free nD
    have eN : (((xs.map V.int).length : Nat) : Int).toNat = xs.length := by rw [List.length_map]; omega
    refine lc_range (lo := 0) (n := (((xs.map V.int).length : Nat) : Int).toNat) (PvM a D l H n xs) ?_ (fun i H' hi h => ⟨rfl, ?_⟩) (fun H' h => ?_)
    · exact ⟨[], xs, But.of (s1.trans (same_new _ nD)), (P1.same (same_new _ nD)).mono (by omega), upd_same, by rw [upd_ne nDl]; exact e1, rfl, List.Perm.refl _⟩
    · obtain ⟨bs, ls, b0, p0, eD, el, lb, pm⟩ := h
      rw [eN] at hi
      have hlen := pm.length_eq
      rw [List.length_append] at hlen
      have hpos : 0 < ls.length := by omega
      refine ⟨.ref l, rfl, .inl ⟨rfl, _, SqL.of el⟩, .ref a, rfl, .ref l, rfl, l, _, rfl, .inl (SqL.of el), a, ((ls.map V.int).length : Int), _, rfl, p0, by omega, by rw [List.length_map]; omega, by rw [List.length_map]; omega, fun r H4 b4 p4 r0 r1 => ?_⟩
      rw [List.length_map] at r1
      obtain ⟨j, rfl⟩ := Int.eq_ofNat_of_zero_le r0
      have hj : j < ls.length := by omega
      have el4 := b4 _ _ nla el
      have eD4 := b4 _ _ nDa eD
      have sl : seqIndex? (j : Int) (ls.map V.int).length = some j := by
        rw [List.length_map]
        exact (ixN_seq (ixN_nat hj)).1
      have g : (ls.map V.int)[j]? = some (.int ls[j]) := by rw [List.getElem?_map, List.getElem?_eq_getElem hj]; rfl
      refine ⟨l, _, j, j, .int ls[j], rfl, rfl, el4, by omega, by omega, sl, g, ?_⟩
      refine ⟨bs.map V.int, ?_, ?_, bs ++ [ls[j]], ls.eraseIdx j, ?_, ?_, ?_, ?_, ?_, ?_⟩
      · rw [upd_ne nDl.symm]; exact eD4
      · rw [List.length_map, lb]; exact small_of (m := 200) (by omega) (by decide)
      · intro c o nc ec
        have ncD : c ≠ D := ne_of_none ec nDH
        rw [upd_ne ncD]
        have hcl : c ≠ l := ne_of_none ec nl
        rw [upd_ne hcl]; exact b4 _ _ nc (b0 _ _ nc ec)
      · exact ((p4.upd nla.symm).upd nDa.symm).mono (by omega)
      · rw [upd_same, List.map_append]; rfl
      · rw [upd_ne nDl, upd_same, erase_map]
      · rw [List.length_append, lb]; rfl
      · have e : bs ++ [ls[j]] ++ ls.eraseIdx j = bs ++ (ls[j] :: ls.eraseIdx j) := by rw [List.append_assoc]; rfl
        rw [e]
        exact (List.Perm.append_left bs (erase_perm ls j hj)).trans pm
    · obtain ⟨bs, ls, b0, p0, eD, el, lb, pm⟩ := h
      rw [eN] at lb p0
      have hlen := pm.length_eq
      rw [List.length_append] at hlen
      have e0 : ls = [] := List.length_eq_zero_iff.mp (by omega)
      rw [e0, List.append_nil] at pm
      exact q D H' bs nDH b0 (p0.mono (by omega)) eD pm
end

section
variable {P : Program} {w : World} {K : PySem.W.Frag} {mg : Str → Option Value} {base : Heap}
def spSorted (K : PySem.W.Frag) : Sp := fun vs H Q _ => ∃ (a b : Addr) (cs hs : List Int), vs = [.ref a, .ref b] ∧ SqL K H a (cs.map V.int) ∧ SqL K H b (hs.map V.int) ∧ cs ≠ [] ∧ cs.length ≤ 1000 ∧ hs.length ≤ 1000 ∧
  ∀ H' t f r (rest : List Int), Same H H' → H t = none → H f = none → H r = none → H' t = some (.tup [.ref f, .ref r]) → H' f = some (.lst ((tops cs hs).map V.int)) → H' r = some (.lst (rest.map V.int)) → Sorted rest → rest.Perm (ends cs hs) → Q (.ref t) H'
def PvS (a b f : Addr) (cs hs : List Int) (H : Hp) (i : Nat) (σ : L2.St) (H1 : Hp) : Prop :=
  ∃ y4 y5 y6 r, ∃ rest : List Int, σ = [some (.ref a), some (.ref b), some (.ref r), some (.ref f), y4, y5, y6] ∧ Same H H1 ∧ H r = none ∧ r ≠ f ∧
    H1 r = some (.lst (rest.map V.int)) ∧ H1 f = some (.lst (((tops cs hs).take i).map V.int)) ∧ Sorted rest ∧ rest.Perm (play false cs (hs.take i)).2
theorem sorted_step {a b f r : Addr} {cs hs : List Int} {H H3 : Hp} {i k : Nat} {z h : Int} {l : List Int} {D : Ends} (eh : hs[i]? = some h) (sm : Same H H3) (nr : H r = none) (nfH : H f = none) (nrf : r ≠ f)
    (er : H3 r = some (.lst ((z :: l).map V.int))) (ef : H3 f = some (.lst (((tops cs hs).take (i + 1)).map V.int))) (so1 : Sorted (z :: l)) (pm1 : (z :: l).Perm (play false cs (hs.take i)).2)
    (k1 : 1 ≤ k) (k2 : k ≤ l.length + 1) (hl : l.length ≤ 1000) (hlt : ∀ j y, j < k - 1 → l[j]? = some y → y < z + h) (hge : ∀ y, l[k - 1]? = some y → z + h ≤ y)
    (hnx : ∀ σ' H', PvS a b f cs hs H (i + 1) σ' H' → D.nx σ' H') :
    tAsg (tOp rCat (tOp rCat (tSl (rSlL K) (tVar 2) (tPart (tC (.int 1))) (tPart (tVar 6))) (tLst (tCons (tVar 5) tNil))) (tSl (rSlL K) (tVar 2) (tPart (tVar 6)) tNoPart)) (gName 2) D
      [some (.ref a), some (.ref b), some (.ref r), some (.ref f), some (.int h), some (.int (z + h)), some (.int (k : Nat))] H3 := by
  have c1 : cutV ((z :: l).map V.int) (some 1) (some (k : Int)) = (l.take (k - 1)).map V.int := cut_mid (i := 1) (by rw [List.length_cons]; omega) k1
  have c2 : cutV ((z :: l).map V.int) (some (k : Int)) none = (l.drop (k - 1)).map V.int := by
    rw [cut_from (by rw [List.length_cons]; omega)]
    obtain ⟨j, rfl⟩ : ∃ j, k = j + 1 := ⟨k - 1, by omega⟩
    rfl
  refine ⟨.ref r, rfl, 1, rfl, .int k, rfl, k, rfl, r, _, rfl, SqL.of er, fun x1 n1 => ⟨.int (z + h), rfl, (by show 1 ≤ sizeLine; decide), fun x2 n2 => ⟨x1, x2, _, _, rfl, rfl, same_new _ n2 _ _ upd_same, upd_same, ?_, fun x3 n3 => ⟨.ref r, rfl, .int k, rfl, k, rfl, r, _, rfl, SqL.of (same_new _ n3 _ _ (same_new _ n2 _ _ (same_new _ n1 _ _ er))), fun x4 n4 => ⟨x3, x4, _, _, rfl, rfl, same_new _ n4 _ _ upd_same, upd_same, ?_, fun x5 n5 => ?_⟩⟩⟩⟩⟩
  · rw [c1, List.length_map, List.length_take]
    exact small_le (m := 2000) (by simp only [List.length_cons, List.length_nil]; omega) (by decide)
  · rw [c1, c2, List.length_append, List.length_map, List.length_map, List.length_take, List.length_drop]
    exact small_le (m := 3000) (by simp only [List.length_cons, List.length_nil]; omega) (by decide)
  · have s1 := same_new (H := H3) (p := x1) (.lst (cutV ((z :: l).map V.int) (some 1) (some (k : Int)))) n1
    have s4 := ((s1.trans (same_new _ n2)).trans (same_new _ n3)).trans (same_new (.lst (cutV ((z :: l).map V.int) (some (k : Int)) none)) n4)
    generalize upd (upd (upd (upd H3 x1 _) x2 _) x3 _) x4 _ = H4 at n5 s4 ⊢
    have nx5 : x5 ≠ f := fun e => by
      have := s4 _ _ ef
      rw [← e] at this
      rw [this] at n5; cases n5
    refine hnx _ _ ⟨_, _, _, x5, l.take (k - 1) ++ [z + h] ++ l.drop (k - 1), rfl, same_lay (sm.trans s4) n5, sm.free (s4.free n5), nx5, ?_, same_new _ n5 _ _ (s4 _ _ ef), ?_, ?_⟩
    · rw [upd_same, c1, c2, List.map_append, List.map_append]
      rfl
    · exact sorted_ins (List.pairwise_cons.mp so1).2 hlt hge
    · rw [play_take eh]
      exact put_sorted so1 pm1 (ins_perm l (k - 1) (z + h))
theorem ok_law_sorted (T : Txt K mg) : FnOk P w K mg base CX0 1 T.a_law_sorted T.d_law_sorted ["begun", "cards"] (spSorted K) := by
  refine T.F_law_sorted.ok sc_law_sorted (fun vs H Q E h => ?_) (fun cdv A outer s H vs Q E hr h => ?_)
  · obtain ⟨a, b, cs, hs, rfl, _⟩ := h; rfl
  · obtain ⟨a, b, cs, hs, rfl, hA, hB, hne, hl1, hl2, q⟩ := h
    refine ⟨_, (pss_cons (ps_par (i := 2) (j := 3) rfl sc_law_sorted.nd rfl rfl (by decide) rfl rfl (pa_cons (pe_callB cr_sortedI (by rfl) T.z_sorted (by decide +kernel) (pa_cons (pv 0) pa_nil)) (pa_cons (pe_lst pa_nil) pa_nil)) (by rfl))
  (pss_cons (ps_for PassesOwn.never rfl (pi_list (pv 1)) (pg_name (i := 4) sc_law_sorted.nd rfl (.inl rfl))
  (pss_cons (ps_expr (pe_bm PySem.F.plainAttrs_list PySem.F.slot_list_append PySem.F.type_list_append mt_append (pv 3) (pa_cons (pe_ix ix_list (pv 2) pe_int (fun _ _ => rfl)) pa_nil)))
  (pss_cons (ps_set (i := 5) sc_law_sorted.nd rfl (.inl rfl) (pe_op op_add (pe_ix ix_list (pv 2) pe_int (fun _ _ => rfl)) (pv 4)))
  (pss_cons (ps_set (i := 6) sc_law_sorted.nd rfl (.inl rfl) pe_int)
  (pss_cons (ps_while PassesOwn.never (PW.pt (pw_and (pt_cmpR op_lt (pv 6) (pe_callB call_len_seq (by rfl) T.z_len (by decide +kernel) (pa_cons (pv 2) pa_nil)) (nomark _)) (pw_and1 (pt_cmpR op_lt (pe_ix ix_list (pv 2) (pv 6) (fun _ _ => rfl)) (pv 5) (nomark _)))))
  (pss_one (ps_set (i := 6) sc_law_sorted.nd rfl (.inl rfl) (pe_op op_add (pv 6) pe_int))))
  (pss_one (ps_set (i := 2) sc_law_sorted.nd rfl (.inl rfl) (pe_op op_cat (pe_op op_cat (pe_slice sl_list (pv 2) (po_some pe_int) (po_some (pv 6))) (pe_lst (pa_cons (pv 5) pa_nil))) (pe_slice sl_list (pv 2) (po_some (pv 6)) po_none)))))))))
  (pss_one (ps_ret (pe_tup (pa_cons (pv 3) (pa_cons (pv 2) pa_nil))))))), ?_⟩
    refine ⟨.ref a, rfl, a, cs, rfl, hA, fun r0 p pm so np => ⟨Nat.zero_le _, fun f nf => ⟨_, _, rfl, ?_⟩⟩⟩
    have s1 := same_new (H := H) (p := p) (.lst (r0.map V.int)) np
    have s2 := same_lay (o := .lst []) s1 nf
    have nfH : H f = none := s1.free nf
    have npf : p ≠ f := fun e => by rw [← e, upd_same] at nf; cases nf
    refine ⟨.ref b, rfl, b, rfl, ⟨_, s2.seq hB⟩, ?_⟩
    refine for_list (K := K) (a := b) (xs := hs.map V.int) (PvS a b f cs hs H)
      ⟨none, none, none, p, r0, rfl, s2, np, npf, ?_, ?_, so, ?_⟩ (fun i σ H1 _ h => ?_) (fun i x σ H1 hx h => ?_) (fun σ H1 h => ?_)
    · rw [upd_ne npf, upd_same]
    · rw [upd_same]; rfl
    · exact pm
    · obtain ⟨_, _, _, _, _, _, sm, _⟩ := h
      exact sm.seq hB
    · obtain ⟨y4, y5, y6, r, rest, rfl, sm, nr, nrf, er, ef, so1, pm1⟩ := h
      obtain ⟨h, eh, rfl⟩ := get_map hx
      have lrest : rest.length = cs.length := pm1.length_eq.trans (play_cols ..)
      cases rest with
      | nil => exact absurd (List.length_eq_zero_iff.mp lrest.symm) hne
      | cons z l =>
        have ez := sorted_head so1 pm1
        have il : i < hs.length := get_lt eh
        -- found.append(rest[0])
        refine ⟨.ref f, rfl, .inl ⟨rfl, _, SqL.of ef⟩, .ref r, rfl, r, _, 0, .int z, rfl, rfl, SqL.of er, atI_nat (j := 0) rfl, f, _, .int z, rfl, rfl, ef, ?_, ?_⟩
        · rw [List.length_map, List.length_take, tops_len]
          exact small_of (m := 1000) (by omega) (by decide)
        · have er2 : (upd H1 f (.lst (((tops cs hs).take i).map V.int ++ [.int z]))) r = some (.lst ((z :: l).map V.int)) := by rw [upd_ne nrf]; exact er
          have ef2 : (upd H1 f (.lst (((tops cs hs).take i).map V.int ++ [.int z]))) f = some (.lst (((tops cs hs).take (i + 1)).map V.int)) := by
            rw [upd_same]
            refine congrArg (fun u => some (HO.lst u)) (take_map_succ V.int ?_)
            unfold tops
            have hp : (play false cs hs).1[i]? = some (low false (play false cs (hs.take i)).2, mn (play false cs (hs.take i)).2) := by
              exact play_at eh
            rw [List.getElem?_map, hp, ez]
            rfl
          have sm2 : Same H (upd H1 f (.lst (((tops cs hs).take i).map V.int ++ [.int z]))) := same_set sm nfH
          generalize upd H1 f (.lst (((tops cs hs).take i).map V.int ++ [.int z])) = H2 at er2 ef2 sm2 ⊢
          refine ⟨.ref r, rfl, r, _, 0, .int z, rfl, rfl, SqL.of er2, atI_nat (j := 0) rfl, .int h, rfl, z, h, rfl, rfl, ?_⟩
          -- the while
          refine ⟨fun m σ H3 => ∃ k : Nat, σ = [some (.ref a), some (.ref b), some (.ref r), some (.ref f), some (.int h), some (.int (z + h)), some (.int k)] ∧ H3 = H2 ∧ 1 ≤ k ∧ k ≤ l.length + 1 ∧ m = l.length + 1 - k ∧ ∀ j y, j < k - 1 → l[j]? = some y → y < z + h,
            ⟨l.length, 1, rfl, rfl, by omega, by omega, by omega, fun j y hj _ => by omega⟩, fun m σ H3 hW => ?_⟩
          obtain ⟨k, rfl, rfl, k1, k2, rfl, hlt⟩ := hW
          have ll : l.length ≤ 1000 := by rw [List.length_cons] at lrest; omega
          refine ⟨.int k, rfl, .ref r, rfl, r, _, rfl, .inl (SqL.of er2), _, _, rfl, rfl, _, rfl, ?_⟩
          have eL : ((((z :: l).map V.int).length : Nat) : Int) = (l.length : Int) + 1 := by rw [List.length_map, List.length_cons]; omega
          rw [eL]
          by_cases hk : (k : Int) < (l.length : Int) + 1
          · rw [decide_eq_true hk]
            have hkl : k - 1 < l.length := by omega
            have g : ((z :: l).map V.int)[k]? = some (.int l[k - 1]) := by
              obtain ⟨j, rfl⟩ : ∃ j, k = j + 1 := ⟨k - 1, by omega⟩
              rw [List.map_cons, List.getElem?_cons_succ, List.getElem?_map, List.getElem?_eq_getElem (by omega)]
              rfl
            refine ⟨.ref r, rfl, .int k, rfl, r, _, _, _, rfl, rfl, SqL.of er2, atI_nat g, .int (z + h), rfl, _, _, rfl, rfl, _, rfl, ?_⟩
            by_cases hy : l[k - 1] < z + h
            · rw [decide_eq_true hy]
              refine ⟨fun σ' H' => ∃ k' : Nat, σ' = [some (.ref a), some (.ref b), some (.ref r), some (.ref f), some (.int h), some (.int (z + h)), some (.int k')] ∧ H' = H3 ∧ k' = k + 1, fun σ' H' hN => ?_, ?_⟩
              · obtain ⟨k', rfl, rfl, rfl⟩ := hN
                refine ⟨l.length + 1 - (k + 1), by omega, k + 1, rfl, rfl, by omega, by omega, rfl, fun j y hj ey => ?_⟩
                by_cases hjk : j < k - 1
                · exact hlt j y hjk ey
                · have : j = k - 1 := by omega
                  subst this
                  rw [List.getElem?_eq_getElem hkl] at ey
                  cases ey
                  exact hy
              · exact ⟨.int k, rfl, k, 1, rfl, rfl, k + 1, rfl, rfl, rfl⟩
            · rw [decide_eq_false hy]
              refine sorted_step eh sm2 nr nfH nrf er2 ef2 so1 pm1 k1 k2 ll hlt (fun y ey => ?_) (fun σ' H' p => p)
              rw [List.getElem?_eq_getElem hkl] at ey
              cases ey
              omega
          · rw [decide_eq_false hk]
            refine sorted_step eh sm2 nr nfH nrf er2 ef2 so1 pm1 k1 k2 ll hlt (fun y ey => ?_) (fun σ' H' p => p)
            have := get_lt ey
            omega
    · obtain ⟨y4, y5, y6, r, rest, rfl, sm, nr, nrf, er, ef, so1, pm1⟩ := h
      rw [List.length_map] at ef pm1
      rw [List.take_length] at pm1
      rw [← tops_len cs hs, List.take_length] at ef
      refine ⟨.ref f, rfl, .ref r, rfl, (by show 2 ≤ sizeLine; decide), fun t nt => ?_⟩
      have sT := same_new (H := H1) (p := t) (.tup [.ref f, .ref r]) nt
      exact q _ t f r rest (sm.trans sT) (sm.free nt) nfH nr upd_same (sT _ _ ef) (sT _ _ er) so1 pm1
end

section
variable {P : Program} {w : World} {K : PySem.W.Frag} {mg : Str → Option Value} {base : Heap}
/-- a list of lists of ints, as data -/
abbrev dl (ns : List Int) : PyData := .list (ns.map PyData.int)
theorem dpl {H : Hp} {a : Addr} {ns : List Int} (h : SqL K H a (ns.map V.int)) : Dp K H (.ref a) (dl ns) := .lst h (dpInts ns)
theorem start_ok {cs : List Int} (h : IsStart cs) : Nc 1 300 (dl cs) := nc_ints (fun n hn => big_ab (by have := h.all n hn; omega) (h.all n hn).2) (by have := h.len; omega)
theorem cards_ok {hs : List Int} (h : IsCards hs) : Nc 1 300 (dl hs) := nc_ints (fun n hn => big_ab (by have := h.all n hn; omega) (h.all n hn).2) (by have := h.len; omega)
theorem IsStart.ne {cs : List Int} (h : IsStart cs) : cs ≠ [] := fun e => by have := h.len; rw [e] at this; simp at this
theorem tops_ok {cs hs : List Int} (h : IsStart cs) (h2 : IsCards hs) : Nc 1 300 (dl (tops cs hs)) :=
  nc_ints (play_high h.ne h.all h2.all h2.len).2 (by rw [tops_len]; have := h2.len; omega)
theorem IsStart.perm {cs os : List Int} (h : IsStart cs) (p : os.Perm cs) : IsStart os := ⟨by rw [p.length_eq]; exact h.len, fun n hn => h.all n (p.subset hn)⟩
theorem nice2 {d e : PyData} (h1 : Nc 1 300 d) (h2 : Nc 1 300 e) : Nc 2 602 (.list [d, e]) := by
  have q := nc_list (k := 1) (N := 300) (ds := [d, e]) fun x hx => by
    simp only [List.mem_cons, List.not_mem_nil, or_false] at hx
    rcases hx with rfl | rfl
    · exact h1
    · exact h2
  exact q
theorem nice3 {d e f : PyData} (h1 : Nc 1 300 d) (h2 : Nc 1 300 e) (h3 : Nc 1 300 f) : Nc 2 903 (.list [d, e, f]) := by
  have q := nc_list (k := 1) (N := 300) (ds := [d, e, f]) fun x hx => by
    simp only [List.mem_cons, List.not_mem_nil, or_false] at hx
    rcases hx with rfl | rfl | rfl
    · exact h1
    · exact h2
    · exact h3
  exact q
theorem not_ne {x : V} : ¬ ((!decide (x = x)) = true) := by simp
theorem not_neD {d : PyData} (h : SeqAt.shaped d = true) : ¬ ((!PyData.eqv d d) = true) := by
  rw [SeqAt.eqv_refl d (SeqAt.canLay_of_shaped h)]
  simp
theorem shp {k N : Nat} {d : PyData} (h : Nc k N d) (h1 : k ≤ 40 := by decide) : SeqAt.shaped d = true := h.shaped h1
end

section
variable {P : Program} {w : World} {K : PySem.W.Frag} {mg : Str → Option Value} {base : Heap}
theorem kb_tops_of_0_heights_start (T : Txt K mg) : KBinds K T.d_tops_of ["start", "heights"] ["heights", "start"] (fun us ws => match us, ws with | [], [w0, w1] => [w1, w0] | _, _ => []) (fun us ws => match us, ws with | [], [w0, w1] => [w1, w0] | _, _ => []) := by
  obtain ⟨oc, od, kV, doc, pm, an, cdv, ct, osl, e, lk, hcd⟩ := T.F_tops_of.ex
  refine ⟨fun s us ws X hl => ?_, fun {vs us zs ws} r rz => ?_⟩
  · rcases us with _ | ⟨u0, us⟩ <;> rcases ws with _ | ⟨w0, _ | ⟨w1, _ | ⟨w2, ws⟩⟩⟩ <;> first | exact absurd (show (0 : Nat) = 2 from hl) (by decide) | (rw [e]; exact .of_eq rfl)
  · cases r with
    | cons _ _ => exact .nil
    | nil =>
      cases rz with
      | nil => exact .nil
      | cons b2 rzx =>
        cases rzx with
        | nil => exact .nil
        | cons b1 rzxx =>
          cases rzxx with
          | cons _ _ => exact .nil
          | nil =>
            exact (.cons b1 (.cons b2 .nil))
def spRight (K : PySem.W.Frag) : Sp := fun vs H Q _ => ∃ (a o c : Addr) (cs os hs : List Int), vs = [.ref a, .ref o, .ref c] ∧ SqL K H a (cs.map V.int) ∧ SqL K H o (os.map V.int) ∧ SqL K H c (hs.map V.int) ∧ os.Perm cs ∧ IsStart cs ∧ IsCards hs ∧
  ∀ H', Same H H' → Q (.bl true) H'
theorem ok_law_right (T : Txt K mg) : FnG P w K mg base CX0 7 T.a_law_right T.d_law_right ["begun", "other", "cards"] (spRight K) := by
  refine funG0 T.F_law_right sc_law_right (fun vs H Q E h => ?_) (fun cdv A outer s H vs Q E hgu hr h => ?_)
  · obtain ⟨a, o, c, cs, os, hs, rfl, _⟩ := h; rfl
  · obtain ⟨a, o, c, cs, os, hs, rfl, hA, hO, hC, pm, st, cd, q⟩ := h
    have stO := st.perm pm
    have nb := nice3 (start_ok st) (start_ok stO) (cards_ok cd)
    have ld := cd.len
    have ls := st.len
    refine ⟨_, (pss_cons (ps_par (i := 3) (j := 4) rfl sc_law_right.nd rfl rfl (by decide) rfl rfl (pa_cons (pe_callB (call_repr_D hgu hr.units) (by rfl) T.z_repr (by decide +kernel) (pa_cons (pe_lst (pa_cons (pv 0) (pa_cons (pv 1) (pa_cons (pv 2) pa_nil)))) pa_nil)) (pa_cons (pe_call (ok_law_sorted T) (hr.mono (by decide)) (by rfl) T.g_law_sorted T.F_law_sorted.kp T.b_law_sorted .nil pass0 (pa_cons (pv 0) (pa_cons (pv 2) pa_nil))) pa_nil)) (by rfl))
  (pss_cons (ps_asg (pv 4) (pg_tup rfl (pgs_cons (pg_name (i := 5) sc_law_right.nd rfl (.inl rfl)) (pgs_cons (pg_name (i := 6) sc_law_right.nd rfl (.inl rfl)) pgs_nil))))
  (pss_cons (ps_set (i := 7) sc_law_right.nd rfl (.inl rfl) (pe_lst (pa_cons (pe_call (ok_tops_of T) hr (by rfl) T.g_tops_of T.F_tops_of.kp T.b_tops_of .nil pass0 (pa_cons (pv 0) (pa_cons (pv 2) pa_nil))) (pa_cons (pe_callK0 (ok_tops_of T) hr (by rfl) T.g_tops_of T.F_tops_of.kp (kb_tops_of_0_heights_start T) pass0 (pk_cons (pv 2) (pk_cons (pv 1) pk_nil))) pa_nil))))
  (pss_cons (ps_if (PW.pt (pw_or (pt_cmpR op_ne (pe_callB (call_repr_D hgu hr.units) (by rfl) T.z_repr (by decide +kernel) (pa_cons (pv 7) pa_nil)) (pe_callB (call_repr_D hgu hr.units) (by rfl) T.z_repr (by decide +kernel) (pa_cons (pe_lst (pa_cons (pv 5) (pa_cons (pv 5) pa_nil))) pa_nil)) (nomark _)) (pw_or1 (pt_cmpR (op_neD hr.units) (pv 5) (pe_callB cr_sortedI (by rfl) T.z_sorted (by decide +kernel) (pa_cons (pv 5) pa_nil)) (nomark _)))))
  (pss_one (ps_ret pe_bl))
  pss_nil)
  (pss_cons (ps_expr (pe_bm PySem.F.plainAttrs_list PySem.F.slot_list_append PySem.F.type_list_append mt_append (pe_ix ix_list (pv 7) pe_int (fun _ _ => rfl)) (pa_cons pe_non pa_nil)))
  (pss_cons (ps_if (pt_cmpR (op_neD hr.units) (pe_lst (pa_cons (pe_callB cr_sortedI (by rfl) T.z_sorted (by decide +kernel) (pa_cons (pe_call (ok_end_of T) hr (by rfl) T.g_end_of T.F_end_of.kp T.b_end_of .nil pass0 (pa_cons (pv 0) (pa_cons (pv 2) pa_nil))) pa_nil)) (pa_cons (pe_callB cr_sortedI (by rfl) T.z_sorted (by decide +kernel) (pa_cons (pe_call (ok_end_of T) hr (by rfl) T.g_end_of T.F_end_of.kp T.b_end_of .nil pass0 (pa_cons (pv 1) (pa_cons (pv 2) pa_nil))) pa_nil)) pa_nil))) (pe_lst (pa_cons (pv 6) (pa_cons (pv 6) pa_nil))) (nomark _))
  (pss_one (ps_ret pe_bl))
  pss_nil)
  (pss_one (ps_ret (pe_and (pe_cmpR op_eq (pe_callB (call_repr_D hgu hr.units) (by rfl) T.z_repr (by decide +kernel) (pa_cons (pe_call (ok_tops_of T) hr (by rfl) T.g_tops_of T.F_tops_of.kp T.b_tops_of .nil pass0 (pa_cons (pv 0) (pa_cons (pv 2) pa_nil))) pa_nil)) (pe_callB (call_repr_D hgu hr.units) (by rfl) T.z_repr (by decide +kernel) (pa_cons (pv 5) pa_nil)) (nomark _)) (pe_one (pe_cmpR op_eq (pe_callB (call_repr_D hgu hr.units) (by rfl) T.z_repr (by decide +kernel) (pa_cons (pe_lst (pa_cons (pv 0) (pa_cons (pv 1) (pa_cons (pv 2) pa_nil)))) pa_nil)) (pv 3) (nomark _)))))))))))), ?_⟩
    -- before, rows
    refine ⟨.ref a, rfl, .ref o, rfl, .ref c, rfl, (by show 3 ≤ sizeLine; decide), fun L nL => ⟨L, .list [dl cs, dl os, dl hs], rfl, .lst (SqL.of upd_same) (.cons (dpl ((same_new _ nL).seq hA)) (.cons (dpl ((same_new _ nL).seq hO)) (.cons (dpl ((same_new _ nL).seq hC)) .nil))), nb.nice (by decide) (by decide), ?_⟩⟩
    have s1 := same_new (H := H) (p := L) (.lst [.ref a, .ref o, .ref c]) nL
    refine ⟨.ref a, rfl, .ref c, rfl, a, c, cs, hs, rfl, s1.seq hA, s1.seq hC, st.ne, by omega, by omega, fun H2 t f r rest s2 nt nf nr et ef er so pr => ⟨_, _, rfl, ?_⟩⟩
    have S2 := s1.trans s2
    -- due, rest
    refine ⟨.ref t, rfl, t, _, rfl, SqT.of et, rfl, .ref f, [.ref r], rfl, .ref r, [], rfl, rfl, ?_⟩
    -- told
    refine ⟨.ref a, rfl, .ref c, rfl, a, c, cs, hs, rfl, S2.seq hA, S2.seq hC, st, cd, fun H3 p1 s3 np1 ep1 => ?_⟩
    have S3 := S2.trans s3
    refine ⟨.ref c, rfl, .ref o, rfl, o, c, os, hs, rfl, S3.seq hO, S3.seq hC, stO, cd, fun H4 p2 s4 np2 ep2 => ?_⟩
    have S4 := S3.trans s4
    rw [tops_perm st.ne pm] at ep2
    refine ⟨(by show 2 ≤ sizeLine; decide), fun td ntd => ?_⟩
    have s5 := same_new (H := H4) (p := td) (.lst [.ref p1, .ref p2]) ntd
    have e1 := s5 _ _ (s4 _ _ ep1)
    have e2 := s5 _ _ ep2
    have ef5 := s5 _ _ (s4 _ _ (s3 _ _ ef))
    have er5 := s5 _ _ (s4 _ _ (s3 _ _ er))
    have et5 : (upd H4 td (.lst [.ref p1, .ref p2])) td = some (.lst [.ref p1, .ref p2]) := upd_same
    have S5 := S4.trans s5
    have np1H : H p1 = none := S2.free np1
    have nd1 : p1 ≠ td := ne_of_none (s4 _ _ ep1) ntd
    have n1f : p1 ≠ f := (ne_of_none ef np1).symm
    have n1r : p1 ≠ r := (ne_of_none er np1).symm
    generalize upd H4 td (.lst [.ref p1, .ref p2]) = H5 at s5 e1 e2 ef5 er5 et5 S5 ⊢
    have tk := tops_ok st cd
    -- repr(told) != repr([due, due])
    refine ⟨.ref td, rfl, td, .list [dl (tops cs hs), dl (tops cs hs)], rfl, .lst (SqL.of et5) (.cons (dpl (SqL.of e1)) (.cons (dpl (SqL.of e2)) .nil)), (nice2 tk tk).nice (by decide) (by decide), .ref f, rfl, .ref f, rfl, (by show 2 ≤ sizeLine; decide), fun L2 nL2 => ⟨L2, .list [dl (tops cs hs), dl (tops cs hs)], rfl, .lst (SqL.of upd_same) (.cons (dpl (SqL.of (same_new _ nL2 _ _ ef5))) (.cons (dpl (SqL.of (same_new _ nL2 _ _ ef5))) .nil)), (nice2 tk tk).nice (by decide) (by decide), rfl, _, rfl, ite_f not_ne ?_⟩⟩
    have s6 := same_new (H := H5) (p := L2) (.lst [.ref f, .ref f]) nL2
    have e1' := s6 _ _ e1
    have ef6 := s6 _ _ ef5
    have er6 := s6 _ _ er5
    have et6 := s6 _ _ et5
    have S6 := S5.trans s6
    generalize upd H5 L2 (.lst [.ref f, .ref f]) = H6 at s6 e1' ef6 er6 et6 S6 ⊢
    -- due != sorted(due)
    refine ⟨.ref f, rfl, .ref f, rfl, f, tops cs hs, rfl, SqL.of ef6, fun ns' p7 pm7 so7 np7 => ?_⟩
    have e7 : ns' = tops cs hs := sorted_uniq so7 (tops_sorted st.ne fun h hh => by have := cd.all h hh; omega) pm7
    subst e7
    refine ⟨dl (tops cs hs), dl (tops cs hs), dpl (SqL.of (same_new _ np7 _ _ ef6)), dpl (SqL.of upd_same), shapedInts _, shapedInts _, _, rfl, ite_f (not_neD (shapedInts _)) ?_⟩
    have s7 := same_new (H := H6) (p := p7) (.lst ((tops cs hs).map V.int)) np7
    have e17 := s7 _ _ e1'
    have ef7 := s7 _ _ ef6
    have er7 := s7 _ _ er6
    have et7 := s7 _ _ et6
    have S7 := S6.trans s7
    generalize upd H6 p7 (.lst ((tops cs hs).map V.int)) = H7 at s7 e17 ef7 er7 et7 S7 ⊢
    -- told[0].append(None)
    refine ⟨.ref td, rfl, td, _, 0, .ref p1, rfl, rfl, SqL.of et7, atI_nat (j := 0) rfl, .inl ⟨rfl, _, SqL.of e17⟩, p1, _, .non, rfl, rfl, e17, ?_, ?_⟩
    · rw [List.length_map, tops_len]; exact small_of ld (by decide)
    have S8 : Same H (upd H7 p1 (.lst ((tops cs hs).map V.int ++ [.non]))) := same_set S7 np1H
    have ef8 : (upd H7 p1 (.lst ((tops cs hs).map V.int ++ [.non]))) f = some (.lst ((tops cs hs).map V.int)) := by rw [upd_ne n1f.symm]; exact ef7
    have er8 : (upd H7 p1 (.lst ((tops cs hs).map V.int ++ [.non]))) r = some (.lst (rest.map V.int)) := by rw [upd_ne n1r.symm]; exact er7
    generalize upd H7 p1 (.lst ((tops cs hs).map V.int ++ [.non])) = H8 at S8 ef8 er8 ⊢
    -- the ends
    refine ⟨.ref a, rfl, .ref c, rfl, a, c, cs, hs, rfl, S8.seq hA, S8.seq hC, st, cd, fun H9 p9 s9 np9 ep9 => ⟨p9, _, rfl, SqL.of ep9, fun n1 p10 pm10 so10 np10 => ?_⟩⟩
    have q1 : n1 = rest := sorted_uniq so10 so (pm10.trans pr.symm)
    subst q1
    have s10 := same_new (H := H9) (p := p10) (.lst (n1.map V.int)) np10
    have ep10 : (upd H9 p10 (.lst (n1.map V.int))) p10 = some (.lst (n1.map V.int)) := upd_same
    have S10 := (S8.trans s9).trans s10
    have ef10 := s10 _ _ (s9 _ _ ef8)
    have er10 := s10 _ _ (s9 _ _ er8)
    generalize upd H9 p10 (.lst (n1.map V.int)) = H10 at s10 ep10 S10 ef10 er10 ⊢
    refine ⟨.ref o, rfl, .ref c, rfl, o, c, os, hs, rfl, S10.seq hO, S10.seq hC, stO, cd, fun H11 p11 s11 np11 ep11 => ⟨p11, _, rfl, SqL.of ep11, fun n2 p12 pm12 so12 np12 => ?_⟩⟩
    have q2 : n2 = n1 := sorted_uniq so12 so (pm12.trans ((ends_perm st.ne pm).trans pr.symm))
    subst q2
    have s12 := same_new (H := H11) (p := p12) (.lst (n2.map V.int)) np12
    have ep12 : (upd H11 p12 (.lst (n2.map V.int))) p12 = some (.lst (n2.map V.int)) := upd_same
    have S12 := (S10.trans s11).trans s12
    have ef12 := s12 _ _ (s11 _ _ ef10)
    have er12 := s12 _ _ (s11 _ _ er10)
    have e1012 := s12 _ _ (s11 _ _ ep10)
    generalize upd H11 p12 (.lst (n2.map V.int)) = H12 at s12 ep12 S12 ef12 er12 e1012 ⊢
    refine ⟨(by show 2 ≤ sizeLine; decide), fun L3 nL3 => ⟨.ref r, rfl, .ref r, rfl, (by show 2 ≤ sizeLine; decide), fun L4 nL4 => ?_⟩⟩
    have s13 := same_new (H := H12) (p := L3) (.lst [.ref p10, .ref p12]) nL3
    have s14 := same_new (p := L4) (.lst [.ref r, .ref r]) nL4
    have s1314 := s13.trans s14
    have nr3 : Nc 1 300 (dl n2) := nc_ints (fun n hn => (play_high st.ne st.all cd.all ld).1 n (pr.subset hn)) (by rw [pr.length_eq]; unfold ends; rw [play_cols]; omega)
    refine ⟨.list [dl n2, dl n2], .list [dl n2, dl n2], .lst (SqL.of (s14 _ _ upd_same)) (.cons (dpl (SqL.of (s1314 _ _ e1012))) (.cons (dpl (SqL.of (s1314 _ _ ep12))) .nil)), .lst (SqL.of upd_same) (.cons (dpl (SqL.of (s1314 _ _ er12))) (.cons (dpl (SqL.of (s1314 _ _ er12))) .nil)), shp (nice2 nr3 nr3), shp (nice2 nr3 nr3), _, rfl, ite_f (not_neD (shp (nice2 nr3 nr3))) ?_⟩
    have S14 := S12.trans s1314
    have ef14 := s1314 _ _ ef12
    generalize upd (upd H12 L3 _) L4 _ = H14 at S14 ef14 ⊢
    -- the last line
    refine ⟨.ref a, rfl, .ref c, rfl, a, c, cs, hs, rfl, S14.seq hA, S14.seq hC, st, cd, fun H15 p15 s15 np15 ep15 => ?_⟩
    refine ⟨p15, dl (tops cs hs), rfl, dpl (SqL.of ep15), tk.nice (by decide) (by decide), .ref f, rfl, f, dl (tops cs hs), rfl, dpl (SqL.of (s15 _ _ ef14)), tk.nice (by decide) (by decide), rfl, _, rfl, ite_t (decide_eq_true rfl) ?_⟩
    have S15 := S14.trans s15
    refine ⟨.ref a, rfl, .ref o, rfl, .ref c, rfl, (by show 3 ≤ sizeLine; decide), fun L5 nL5 => ?_⟩
    have S16 := same_lay (o := .lst [.ref a, .ref o, .ref c]) S15 nL5
    refine ⟨L5, .list [dl cs, dl os, dl hs], rfl, .lst (SqL.of upd_same) (.cons (dpl (S16.seq hA)) (.cons (dpl (S16.seq hO)) (.cons (dpl (S16.seq hC)) .nil))), nb.nice (by decide) (by decide), _, rfl, rfl, ?_⟩
    show Q (.bl (decide (V.str _ = V.str _))) _
    rw [decide_eq_true rfl]
    exact q _ S16
end

section
variable {P : Program} {w : World} {K : PySem.W.Frag} {mg : Str → Option Value} {base : Heap}
def spLaw (K : PySem.W.Frag) : Sp := fun vs H Q _ => ∃ (a : Addr) (ns : List Int), vs = [.ref a] ∧ Scr K H a (ns.map V.int) ∧ ns.length ≤ 63 ∧ ∀ H', Q (.bl true) H'
theorem ok_law (T : Txt K mg) : FnG P w K mg base CX0 8 T.a_law T.d_law ["script"] (spLaw K) := by
  refine funG0 T.F_law sc_law (fun vs H Q E h => ?_) (fun cdv A outer s H vs Q E hgu hr h => ?_)
  · obtain ⟨a, ns, rfl, _⟩ := h; rfl
  · obtain ⟨a, ns, rfl, hS, hl, q⟩ := h
    refine ⟨_, (pss_cons (ps_for PassesOwn.never rfl (pi_range1 (by rfl) T.z_range (pa_cons (pe_callB (call_max2 rfl) (by rfl) T.z_max (by decide +kernel) (pa_cons pe_int (pa_cons (pe_callB (call_min2 rfl) (by rfl) T.z_min (by decide +kernel) (pa_cons pe_int (pa_cons (pe_callB call_len_seq (by rfl) T.z_len (by decide +kernel) (pa_cons (pv 0) pa_nil)) pa_nil))) pa_nil))) pa_nil)) (pg_name (i := 1) sc_law.nd rfl (.inl rfl))
  (pss_cons (ps_set (i := 2) sc_law.nd rfl (.inl rfl) (pe_call (ok_law_pool T) (hr.mono (by decide)) (by rfl) T.g_law_pool T.F_law_pool.kp T.b_law_pool .nil pass0 (pa_cons (pe_call (ok_law_cell_at T) (hr.mono (by decide)) (by rfl) T.g_law_cell_at T.F_law_cell_at.kp T.b_law_cell_at .nil pass0 (pa_cons (pv 0) (pa_cons (pv 1) pa_nil))) (pa_cons (pv 1) pa_nil))))
  (pss_one (ps_for PassesOwn.never rfl (pi_range1 (by rfl) T.z_range (pa_cons pe_int pa_nil)) (pg_name (i := 3) sc_law.nd rfl (.inl rfl))
  (pss_cons (ps_par (i := 4) (j := 5) rfl sc_law.nd rfl rfl (by decide) rfl rfl (pa_cons (pe_call (ok_law_begun T) (hr.mono (by decide)) (by rfl) T.g_law_begun T.F_law_begun.kp T.b_law_begun .nil pass0 (pa_cons (pv 2) (pa_cons (pv 0) pa_nil))) (pa_cons (pe_call (ok_law_cards T) (hr.mono (by decide)) (by rfl) T.g_law_cards T.F_law_cards.kp T.b_law_cards .nil pass0 (pa_cons (pv 2) (pa_cons (pv 0) pa_nil))) pa_nil)) (by rfl))
  (pss_cons (ps_if (pt_not (pt_val (pe_callG (ok_law_right T) hgu hr (by rfl) T.g_law_right T.F_law_right.kp T.b_law_right .nil pass0 (pa_cons (pv 4) (pa_cons (pe_call (ok_law_mixed T) (hr.mono (by decide)) (by rfl) T.g_law_mixed T.F_law_mixed.kp T.b_law_mixed .nil pass0 (pa_cons (pv 2) (pa_cons (pv 4) pa_nil))) (pa_cons (pv 5) pa_nil))))))
  (pss_one (ps_ret pe_bl))
  pss_nil)
  (pss_cons (ps_expr (pe_bm0 PySem.F.plainAttrs_list PySem.F.slot_list_reverse PySem.F.type_list_reverse mt_reverse (pv 5)))
  (pss_one (ps_if (pt_not (pt_val (pe_callG (ok_law_right T) hgu hr (by rfl) T.g_law_right T.F_law_right.kp T.b_law_right .nil pass0 (pa_cons (pv 4) (pa_cons (pe_revL (pv 4)) (pa_cons (pv 5) pa_nil))))))
  (pss_one (ps_ret pe_bl))
  pss_nil)))))))))
  (pss_one (ps_ret pe_bl))), ?_⟩
    refine ⟨.ref a, rfl, a, _, rfl, .inl hS.sq, 6, _, rfl, 1, _, rfl, _, rfl, ?_⟩
    rw [List.length_map]
    generalize hN : (if (if ((ns.length : Nat) : Int) < 6 then ((ns.length : Nat) : Int) else 6) > 1 then (if ((ns.length : Nat) : Int) < 6 then ((ns.length : Nat) : Int) else 6) else 1) = N
    have hN2 : 0 ≤ N ∧ N ≤ 6 := by
      rw [← hN]
      split <;> split <;> omega
    refine ⟨by omega, by omega, ?_⟩
    refine for_range (lo := 0) (n := N.toNat) (fun i σ H1 => ∃ y1 y2 y3 y4 y5, σ = [some (.ref a), y1, y2, y3, y4, y5] ∧ Same H H1) ⟨none, none, none, none, none, rfl, Same.refl H⟩ (fun i σ H1 hi h => ?_) (fun σ H1 h => ?_)
    · obtain ⟨y1, y2, y3, y4, y5, rfl, sm⟩ := h
      refine ⟨.ref a, rfl, .int (0 + i), rfl, a, i, ns, by rw [Int.zero_add]; rfl, (hS.same sm).sq, fun cell => ?_⟩
      refine ⟨.int (0 + i), rfl, cell, 0 + i, rfl, by omega, by omega, fun p H2 np s2 b2 P2 => ?_⟩
      have S2 := sm.trans s2
      have npH : H p = none := sm.free np
      refine ⟨2, rfl, by decide, by decide, ?_⟩
      refine for_range (lo := 0) (n := 2) (fun j σ H3 => ∃ y3 y4 y5, σ = [some (.ref a), some (.int (0 + i)), some (.ref p), y3, y4, y5] ∧ Same H H3 ∧ Pool H3 p (1000 * j)) ⟨y3, y4, y5, rfl, S2, P2.mono (by omega)⟩ (fun j σ H3 hj h => ?_) (fun σ H3 h => ?_)
      · obtain ⟨y3, y4, y5, rfl, S3, P3⟩ := h
        refine ⟨.ref p, rfl, .ref a, rfl, p, a, _, ns, rfl, P3, by omega, hS.same S3, fun b H4 bs nb b4 P4 eb st => ?_⟩
        have S4 : Same H H4 := same_but S3 npH b4
        have nbp : b ≠ p := P3.ne nb
        refine ⟨.ref p, rfl, .ref a, rfl, p, a, _, ns, rfl, P4, by omega, hS.same S4, fun c H5 hs nc b5 P5 ec cd => ⟨_, _, rfl, ?_⟩⟩
        have S5 : Same H H5 := same_but S4 npH b5
        have ncp : c ≠ p := P4.ne nc
        have nbc : b ≠ c := ne_of_none eb nc
        have ncH : H c = none := S4.free nc
        have eb5 := b5 _ _ nbp eb
        -- the order of the columns
        refine ⟨.ref b, rfl, .ref p, rfl, .ref b, rfl, p, b, _, bs, rfl, P5, by omega, SqL.of eb5, by have := st.len; omega, fun m H6 ys nm b6 P6 em pm => ?_⟩
        have S6 : Same H H6 := same_but S5 npH b6
        have eb6 := b6 _ _ nbp eb5
        have ec6 := b6 _ _ ncp ec
        refine ⟨.ref c, rfl, b, m, c, bs, ys, hs, rfl, SqL.of eb6, SqL.of em, SqL.of ec6, pm, st, cd, fun H7 s7 => ⟨true, rfl, ?_⟩⟩
        have eb7 := s7 _ _ eb6
        have ec7 := s7 _ _ ec6
        have P7 := P6.same s7
        -- cards.reverse()
        refine ⟨.ref c, rfl, .inl ⟨rfl, _, SqL.of ec7⟩, c, _, rfl, rfl, ec7, ?_⟩
        have S8 : Same H (upd H7 c (.lst (hs.map V.int).reverse)) := same_set (S6.trans s7) ncH
        have eb8 : (upd H7 c (.lst (hs.map V.int).reverse)) b = some (.lst (bs.map V.int)) := by rw [upd_ne nbc]; exact eb7
        have ec8 : (upd H7 c (.lst (hs.map V.int).reverse)) c = some (.lst (hs.reverse.map V.int)) := by rw [upd_same, List.map_reverse]
        have P8 : Pool (upd H7 c (.lst (hs.map V.int).reverse)) p _ := P7.upd ncp.symm
        generalize upd H7 c (.lst (hs.map V.int).reverse) = H8 at S8 eb8 ec8 P8 ⊢
        refine ⟨.ref b, rfl, .ref b, rfl, b, _, rfl, SqL.of eb8, fun m2 nm2 => ?_⟩
        have s9 := same_new (H := H8) (p := m2) (.lst (bs.map V.int).reverse) nm2
        refine ⟨.ref c, rfl, b, m2, c, bs, bs.reverse, hs.reverse, rfl, SqL.of (s9 _ _ eb8), SqL.of (by rw [upd_same, List.map_reverse]), SqL.of (s9 _ _ ec8), List.reverse_perm _, st, ⟨by rw [List.length_reverse]; exact cd.len, fun n hn => cd.all n (List.mem_reverse.mp hn)⟩, fun H10 s10 => ⟨true, rfl, ?_⟩⟩
        exact ⟨_, _, _, rfl, (S8.trans s9).trans s10, ((P8.same s9).same s10).mono (by omega)⟩
      · obtain ⟨y3, y4, y5, rfl, S3, P3⟩ := h
        exact ⟨_, _, _, _, _, rfl, S3⟩
    · obtain ⟨y1, y2, y3, y4, y5, rfl, sm⟩ := h
      exact q H1
end

set_option maxHeartbeats 4000000 in
theorem all_mk {l : PySem.W.OpenLaw} {w : World} {K : PySem.W.Frag} {h : Heap} {mg : Str → Option Value} {fa : Addr}
  (X : K.In h) (G : h.Ns mainGlobals mg) (hfa : mg "law" = some (.ref fa))
  {od0 an0 : Option Addr} {sl0 : Array (Option Value)} {oc0 kV0 dc0 pm0 cd0 ct0 : Value} {f0 : Addr}
  {od1 an1 : Option Addr} {sl1 : Array (Option Value)} {oc1 kV1 dc1 pm1 cd1 ct1 : Value} {f1 : Addr}
  {od2 an2 : Option Addr} {sl2 : Array (Option Value)} {oc2 kV2 dc2 pm2 cd2 ct2 : Value} {f2 : Addr}
  {od3 an3 : Option Addr} {sl3 : Array (Option Value)} {oc3 kV3 dc3 pm3 cd3 ct3 : Value} {f3 : Addr}
  {od4 an4 : Option Addr} {sl4 : Array (Option Value)} {oc4 kV4 dc4 pm4 cd4 ct4 : Value} {f4 : Addr}
  {od5 an5 : Option Addr} {sl5 : Array (Option Value)} {oc5 kV5 dc5 pm5 cd5 ct5 : Value} {f5 : Addr}
  {od6 an6 : Option Addr} {sl6 : Array (Option Value)} {oc6 kV6 dc6 pm6 cd6 ct6 : Value} {f6 : Addr}
  {od7 an7 : Option Addr} {sl7 : Array (Option Value)} {oc7 kV7 dc7 pm7 cd7 ct7 : Value} {f7 : Addr}
  {od8 an8 : Option Addr} {sl8 : Array (Option Value)} {oc8 kV8 dc8 pm8 cd8 ct8 : Value} {f8 : Addr}
  {od9 an9 : Option Addr} {sl9 : Array (Option Value)} {oc9 kV9 dc9 pm9 cd9 ct9 : Value} {f9 : Addr}
  {od10 an10 : Option Addr} {sl10 : Array (Option Value)} {oc10 kV10 dc10 pm10 cd10 ct10 : Value} {f10 : Addr}
  {od11 an11 : Option Addr} {sl11 : Array (Option Value)} {oc11 kV11 dc11 pm11 cd11 ct11 : Value} {f11 : Addr}
  {od12 an12 : Option Addr} {sl12 : Array (Option Value)} {oc12 kV12 dc12 pm12 cd12 ct12 : Value} {f12 : Addr}
  {od13 an13 : Option Addr} {sl13 : Array (Option Value)} {oc13 kV13 dc13 pm13 cd13 ct13 : Value} {f13 : Addr}
  {od14 an14 : Option Addr} {sl14 : Array (Option Value)} {oc14 kV14 dc14 pm14 cd14 ct14 : Value} {f14 : Addr}
  {od15 an15 : Option Addr} {sl15 : Array (Option Value)} {oc15 kV15 dc15 pm15 cd15 ct15 : Value} {f15 : Addr}
  {od16 an16 : Option Addr} {sl16 : Array (Option Value)} {oc16 kV16 dc16 pm16 cd16 ct16 : Value} {f16 : Addr}
  {od17 an17 : Option Addr} {sl17 : Array (Option Value)} {oc17 kV17 dc17 pm17 cd17 ct17 : Value} {f17 : Addr}
  {od18 an18 : Option Addr} {sl18 : Array (Option Value)} {oc18 kV18 dc18 pm18 cd18 ct18 : Value} {f18 : Addr}
  {od19 an19 : Option Addr} {sl19 : Array (Option Value)} {oc19 kV19 dc19 pm19 cd19 ct19 : Value} {f19 : Addr}
  (a0 : PySem.W.nsIn K mainGlobals "is_integer_within" = some (some (.ref f0)))
  (l0 : K.lookup f0 = some ⟨oc0, od0, .func (PySem.W.fnOf "is_integer_within" "is_integer_within" (defArgs s_is_integer_within) (defBody s_is_integer_within) (defScope s_is_integer_within) .none kV0 dc0 pm0 an0 cd0 ct0), sl0⟩)
  (c0 : PySem.W.codeIn K cd0 "is_integer_within" = true) (k0 : PySem.W.keepIn K (.ref f0) = true)
  (a1 : PySem.W.nsIn K mainGlobals "is_list_of_integers" = some (some (.ref f1)))
  (l1 : K.lookup f1 = some ⟨oc1, od1, .func (PySem.W.fnOf "is_list_of_integers" "is_list_of_integers" (defArgs s_is_list_of_integers) (defBody s_is_list_of_integers) (defScope s_is_list_of_integers) .none kV1 dc1 pm1 an1 cd1 ct1), sl1⟩)
  (c1 : PySem.W.codeIn K cd1 "is_list_of_integers" = true) (k1 : PySem.W.keepIn K (.ref f1) = true)
  (a2 : PySem.W.nsIn K mainGlobals "is_start" = some (some (.ref f2)))
  (l2 : K.lookup f2 = some ⟨oc2, od2, .func (PySem.W.fnOf "is_start" "is_start" (defArgs s_is_start) (defBody s_is_start) (defScope s_is_start) .none kV2 dc2 pm2 an2 cd2 ct2), sl2⟩)
  (c2 : PySem.W.codeIn K cd2 "is_start" = true) (k2 : PySem.W.keepIn K (.ref f2) = true)
  (a3 : PySem.W.nsIn K mainGlobals "is_cards" = some (some (.ref f3)))
  (l3 : K.lookup f3 = some ⟨oc3, od3, .func (PySem.W.fnOf "is_cards" "is_cards" (defArgs s_is_cards) (defBody s_is_cards) (defScope s_is_cards) .none kV3 dc3 pm3 an3 cd3 ct3), sl3⟩)
  (c3 : PySem.W.codeIn K cd3 "is_cards" = true) (k3 : PySem.W.keepIn K (.ref f3) = true)
  (a4 : PySem.W.nsIn K mainGlobals "check_start" = some (some (.ref f4)))
  (l4 : K.lookup f4 = some ⟨oc4, od4, .func (PySem.W.fnOf "check_start" "check_start" (defArgs s_check_start) (defBody s_check_start) (defScope s_check_start) .none kV4 dc4 pm4 an4 cd4 ct4), sl4⟩)
  (c4 : PySem.W.codeIn K cd4 "check_start" = true) (k4 : PySem.W.keepIn K (.ref f4) = true)
  (a5 : PySem.W.nsIn K mainGlobals "check_cards" = some (some (.ref f5)))
  (l5 : K.lookup f5 = some ⟨oc5, od5, .func (PySem.W.fnOf "check_cards" "check_cards" (defArgs s_check_cards) (defBody s_check_cards) (defScope s_check_cards) .none kV5 dc5 pm5 an5 cd5 ct5), sl5⟩)
  (c5 : PySem.W.codeIn K cd5 "check_cards" = true) (k5 : PySem.W.keepIn K (.ref f5) = true)
  (a6 : PySem.W.nsIn K mainGlobals "check_start_and_cards" = some (some (.ref f6)))
  (l6 : K.lookup f6 = some ⟨oc6, od6, .func (PySem.W.fnOf "check_start_and_cards" "check_start_and_cards" (defArgs s_check_start_and_cards) (defBody s_check_start_and_cards) (defScope s_check_start_and_cards) .none kV6 dc6 pm6 an6 cd6 ct6), sl6⟩)
  (c6 : PySem.W.codeIn K cd6 "check_start_and_cards" = true) (k6 : PySem.W.keepIn K (.ref f6) = true)
  (a7 : PySem.W.nsIn K mainGlobals "lowest_column" = some (some (.ref f7)))
  (l7 : K.lookup f7 = some ⟨oc7, od7, .func (PySem.W.fnOf "lowest_column" "lowest_column" (defArgs s_lowest_column) (defBody s_lowest_column) (defScope s_lowest_column) .none kV7 dc7 pm7 an7 cd7 ct7), sl7⟩)
  (c7 : PySem.W.codeIn K cd7 "lowest_column" = true) (k7 : PySem.W.keepIn K (.ref f7) = true)
  (a8 : PySem.W.nsIn K mainGlobals "lay_cards" = some (some (.ref f8)))
  (l8 : K.lookup f8 = some ⟨oc8, od8, .func (PySem.W.fnOf "lay_cards" "lay_cards" (defArgs s_lay_cards) (defBody s_lay_cards) (defScope s_lay_cards) .none kV8 dc8 pm8 an8 cd8 ct8), sl8⟩)
  (c8 : PySem.W.codeIn K cd8 "lay_cards" = true) (k8 : PySem.W.keepIn K (.ref f8) = true)
  (a9 : PySem.W.nsIn K mainGlobals "tops_of" = some (some (.ref f9)))
  (l9 : K.lookup f9 = some ⟨oc9, od9, .func (PySem.W.fnOf "tops_of" "tops_of" (defArgs s_tops_of) (defBody s_tops_of) (defScope s_tops_of) .none kV9 dc9 pm9 an9 cd9 ct9), sl9⟩)
  (c9 : PySem.W.codeIn K cd9 "tops_of" = true) (k9 : PySem.W.keepIn K (.ref f9) = true)
  (a10 : PySem.W.nsIn K mainGlobals "end_of" = some (some (.ref f10)))
  (l10 : K.lookup f10 = some ⟨oc10, od10, .func (PySem.W.fnOf "end_of" "end_of" (defArgs s_end_of) (defBody s_end_of) (defScope s_end_of) .none kV10 dc10 pm10 an10 cd10 ct10), sl10⟩)
  (c10 : PySem.W.codeIn K cd10 "end_of" = true) (k10 : PySem.W.keepIn K (.ref f10) = true)
  (a11 : PySem.W.nsIn K mainGlobals "_law_cell_at" = some (some (.ref f11)))
  (l11 : K.lookup f11 = some ⟨oc11, od11, .func (PySem.W.fnOf "_law_cell_at" "_law_cell_at" (defArgs s_law_cell_at) (defBody s_law_cell_at) (defScope s_law_cell_at) .none kV11 dc11 pm11 an11 cd11 ct11), sl11⟩)
  (c11 : PySem.W.codeIn K cd11 "_law_cell_at" = true) (k11 : PySem.W.keepIn K (.ref f11) = true)
  (a12 : PySem.W.nsIn K mainGlobals "_law_pool" = some (some (.ref f12)))
  (l12 : K.lookup f12 = some ⟨oc12, od12, .func (PySem.W.fnOf "_law_pool" "_law_pool" (defArgs s_law_pool) (defBody s_law_pool) (defScope s_law_pool) .none kV12 dc12 pm12 an12 cd12 ct12), sl12⟩)
  (c12 : PySem.W.codeIn K cd12 "_law_pool" = true) (k12 : PySem.W.keepIn K (.ref f12) = true)
  (a13 : PySem.W.nsIn K mainGlobals "_law_draw" = some (some (.ref f13)))
  (l13 : K.lookup f13 = some ⟨oc13, od13, .func (PySem.W.fnOf "_law_draw" "_law_draw" (defArgs s_law_draw) (defBody s_law_draw) (defScope s_law_draw) .none kV13 dc13 pm13 an13 cd13 ct13), sl13⟩)
  (c13 : PySem.W.codeIn K cd13 "_law_draw" = true) (k13 : PySem.W.keepIn K (.ref f13) = true)
  (a14 : PySem.W.nsIn K mainGlobals "_law_begun" = some (some (.ref f14)))
  (l14 : K.lookup f14 = some ⟨oc14, od14, .func (PySem.W.fnOf "_law_begun" "_law_begun" (defArgs s_law_begun) (defBody s_law_begun) (defScope s_law_begun) .none kV14 dc14 pm14 an14 cd14 ct14), sl14⟩)
  (c14 : PySem.W.codeIn K cd14 "_law_begun" = true) (k14 : PySem.W.keepIn K (.ref f14) = true)
  (a15 : PySem.W.nsIn K mainGlobals "_law_cards" = some (some (.ref f15)))
  (l15 : K.lookup f15 = some ⟨oc15, od15, .func (PySem.W.fnOf "_law_cards" "_law_cards" (defArgs s_law_cards) (defBody s_law_cards) (defScope s_law_cards) .none kV15 dc15 pm15 an15 cd15 ct15), sl15⟩)
  (c15 : PySem.W.codeIn K cd15 "_law_cards" = true) (k15 : PySem.W.keepIn K (.ref f15) = true)
  (a16 : PySem.W.nsIn K mainGlobals "_law_mixed" = some (some (.ref f16)))
  (l16 : K.lookup f16 = some ⟨oc16, od16, .func (PySem.W.fnOf "_law_mixed" "_law_mixed" (defArgs s_law_mixed) (defBody s_law_mixed) (defScope s_law_mixed) .none kV16 dc16 pm16 an16 cd16 ct16), sl16⟩)
  (c16 : PySem.W.codeIn K cd16 "_law_mixed" = true) (k16 : PySem.W.keepIn K (.ref f16) = true)
  (a17 : PySem.W.nsIn K mainGlobals "_law_sorted" = some (some (.ref f17)))
  (l17 : K.lookup f17 = some ⟨oc17, od17, .func (PySem.W.fnOf "_law_sorted" "_law_sorted" (defArgs s_law_sorted) (defBody s_law_sorted) (defScope s_law_sorted) .none kV17 dc17 pm17 an17 cd17 ct17), sl17⟩)
  (c17 : PySem.W.codeIn K cd17 "_law_sorted" = true) (k17 : PySem.W.keepIn K (.ref f17) = true)
  (a18 : PySem.W.nsIn K mainGlobals "_law_right" = some (some (.ref f18)))
  (l18 : K.lookup f18 = some ⟨oc18, od18, .func (PySem.W.fnOf "_law_right" "_law_right" (defArgs s_law_right) (defBody s_law_right) (defScope s_law_right) .none kV18 dc18 pm18 an18 cd18 ct18), sl18⟩)
  (c18 : PySem.W.codeIn K cd18 "_law_right" = true) (k18 : PySem.W.keepIn K (.ref f18) = true)
  (a19 : PySem.W.nsIn K mainGlobals "law" = some (some (.ref f19)))
  (l19 : K.lookup f19 = some ⟨oc19, od19, .func (PySem.W.fnOf "law" "law" (defArgs s_law) (defBody s_law) (defScope s_law) .none kV19 dc19 pm19 an19 cd19 ct19), sl19⟩)
  (c19 : PySem.W.codeIn K cd19 "law" = true) (k19 : PySem.W.keepIn K (.ref f19) = true)
  (z_isinstance : PySem.W.nsIn K mainGlobals "isinstance" = some none)
  (z_bool : PySem.W.nsIn K mainGlobals "bool" = some none)
  (z_int : PySem.W.nsIn K mainGlobals "int" = some none)
  (z_len : PySem.W.nsIn K mainGlobals "len" = some none)
  (z_type : PySem.W.nsIn K mainGlobals "type" = some none)
  (z_list : PySem.W.nsIn K mainGlobals "list" = some none)
  (z_all : PySem.W.nsIn K mainGlobals "all" = some none)
  (z_min : PySem.W.nsIn K mainGlobals "min" = some none)
  (z_max : PySem.W.nsIn K mainGlobals "max" = some none)
  (z_range : PySem.W.nsIn K mainGlobals "range" = some none)
  (z_sorted : PySem.W.nsIn K mainGlobals "sorted" = some none)
  (z_repr : PySem.W.nsIn K mainGlobals "repr" = some none)
  {t_MOST_HEIGHT : Tok} (c_MOST_HEIGHT : PySem.W.nsIn K mainGlobals "MOST_HEIGHT" = some (some (.int (1000000000000000000000000000000) t_MOST_HEIGHT)))
  {t_MOST_COLUMNS : Tok} (c_MOST_COLUMNS : PySem.W.nsIn K mainGlobals "MOST_COLUMNS" = some (some (.int (30) t_MOST_COLUMNS)))
  {t_MOST_CARDS : Tok} (c_MOST_CARDS : PySem.W.nsIn K mainGlobals "MOST_CARDS" = some (some (.int (200) t_MOST_CARDS))) :
    ∃ fd : FuncData, (∀ (s : Shared) (v : Value), BindsTo s fd ⟨[v], []⟩ [("script", v)]) ∧
      ∀ base : Heap, K.In base → base.Ns mainGlobals mg → FnG l.prog w K mg base CX0 8 fa fd ["script"] (spLaw K) := by
  have e := hfa.symm.trans (PySem.W.mg_of X G a19)
  cases e
  have F0 := fun_mk (st := s_is_integer_within) l0 c0 k0
  have b0 := F0.binds (ps := ["value", "least", "greatest"]) fun _ _ _ _ _ _ us hl => match us, hl with | [_, _, _], _ => rfl
  have F1 := fun_mk (st := s_is_list_of_integers) l1 c1 k1
  have b1 := F1.binds (ps := ["value", "fewest", "most", "least", "greatest"]) fun _ _ _ _ _ _ us hl => match us, hl with | [_, _, _, _, _], _ => rfl
  have F2 := fun_mk (st := s_is_start) l2 c2 k2
  have b2 := F2.binds (ps := ["value"]) fun _ _ _ _ _ _ us hl => match us, hl with | [_], _ => rfl
  have F3 := fun_mk (st := s_is_cards) l3 c3 k3
  have b3 := F3.binds (ps := ["value"]) fun _ _ _ _ _ _ us hl => match us, hl with | [_], _ => rfl
  have F4 := fun_mk (st := s_check_start) l4 c4 k4
  have b4 := F4.binds (ps := ["start"]) fun _ _ _ _ _ _ us hl => match us, hl with | [_], _ => rfl
  have F5 := fun_mk (st := s_check_cards) l5 c5 k5
  have b5 := F5.binds (ps := ["heights"]) fun _ _ _ _ _ _ us hl => match us, hl with | [_], _ => rfl
  have F6 := fun_mk (st := s_check_start_and_cards) l6 c6 k6
  have b6 := F6.binds (ps := ["start", "heights"]) fun _ _ _ _ _ _ us hl => match us, hl with | [_, _], _ => rfl
  have F7 := fun_mk (st := s_lowest_column) l7 c7 k7
  have b7 := F7.binds (ps := ["columns", "right"]) fun _ _ _ _ _ _ us hl => match us, hl with | [_, _], _ => rfl
  have F8 := fun_mk (st := s_lay_cards) l8 c8 k8
  have b8 := F8.binds (ps := ["start", "heights", "right"]) fun _ _ _ _ _ _ us hl => match us, hl with | [_, _, _], _ => rfl
  have F9 := fun_mk (st := s_tops_of) l9 c9 k9
  have b9 := F9.binds (ps := ["start", "heights"]) fun _ _ _ _ _ _ us hl => match us, hl with | [_, _], _ => rfl
  have F10 := fun_mk (st := s_end_of) l10 c10 k10
  have b10 := F10.binds (ps := ["start", "heights"]) fun _ _ _ _ _ _ us hl => match us, hl with | [_, _], _ => rfl
  have F11 := fun_mk (st := s_law_cell_at) l11 c11 k11
  have b11 := F11.binds (ps := ["script", "k"]) fun _ _ _ _ _ _ us hl => match us, hl with | [_, _], _ => rfl
  have F12 := fun_mk (st := s_law_pool) l12 c12 k12
  have b12 := F12.binds (ps := ["cell", "place"]) fun _ _ _ _ _ _ us hl => match us, hl with | [_, _], _ => rfl
  have F13 := fun_mk (st := s_law_draw) l13 c13 k13
  have b13 := F13.binds (ps := ["pool", "many"]) fun _ _ _ _ _ _ us hl => match us, hl with | [_, _], _ => rfl
  have F14 := fun_mk (st := s_law_begun) l14 c14 k14
  have b14 := F14.binds (ps := ["pool", "script"]) fun _ _ _ _ _ _ us hl => match us, hl with | [_, _], _ => rfl
  have F15 := fun_mk (st := s_law_cards) l15 c15 k15
  have b15 := F15.binds (ps := ["pool", "script"]) fun _ _ _ _ _ _ us hl => match us, hl with | [_, _], _ => rfl
  have F16 := fun_mk (st := s_law_mixed) l16 c16 k16
  have b16 := F16.binds (ps := ["pool", "things"]) fun _ _ _ _ _ _ us hl => match us, hl with | [_, _], _ => rfl
  have F17 := fun_mk (st := s_law_sorted) l17 c17 k17
  have b17 := F17.binds (ps := ["begun", "cards"]) fun _ _ _ _ _ _ us hl => match us, hl with | [_, _], _ => rfl
  have F18 := fun_mk (st := s_law_right) l18 c18 k18
  have b18 := F18.binds (ps := ["begun", "other", "cards"]) fun _ _ _ _ _ _ us hl => match us, hl with | [_, _, _], _ => rfl
  have F19 := fun_mk (st := s_law) l19 c19 k19
  have b19 := F19.binds (ps := ["script"]) fun _ _ _ _ _ _ us hl => match us, hl with | [_], _ => rfl
  exact ⟨_, fun s v => .of_eq rfl, fun base _ _ => ok_law (⟨f0, _, F0, b0, (PySem.W.mg_of X G a0), f1, _, F1, b1, (PySem.W.mg_of X G a1), f2, _, F2, b2, (PySem.W.mg_of X G a2), f3, _, F3, b3, (PySem.W.mg_of X G a3), f4, _, F4, b4, (PySem.W.mg_of X G a4), f5, _, F5, b5, (PySem.W.mg_of X G a5), f6, _, F6, b6, (PySem.W.mg_of X G a6), f7, _, F7, b7, (PySem.W.mg_of X G a7), f8, _, F8, b8, (PySem.W.mg_of X G a8), f9, _, F9, b9, (PySem.W.mg_of X G a9), f10, _, F10, b10, (PySem.W.mg_of X G a10), f11, _, F11, b11, (PySem.W.mg_of X G a11), f12, _, F12, b12, (PySem.W.mg_of X G a12), f13, _, F13, b13, (PySem.W.mg_of X G a13), f14, _, F14, b14, (PySem.W.mg_of X G a14), f15, _, F15, b15, (PySem.W.mg_of X G a15), f16, _, F16, b16, (PySem.W.mg_of X G a16), f17, _, F17, b17, (PySem.W.mg_of X G a17), f18, _, F18, b18, (PySem.W.mg_of X G a18), fa, _, F19, b19, (PySem.W.mg_of X G a19), (PySem.W.mg_none_of X G z_isinstance), (PySem.W.mg_none_of X G z_bool), (PySem.W.mg_none_of X G z_int), (PySem.W.mg_none_of X G z_len), (PySem.W.mg_none_of X G z_type), (PySem.W.mg_none_of X G z_list), (PySem.W.mg_none_of X G z_all), (PySem.W.mg_none_of X G z_min), (PySem.W.mg_none_of X G z_max), (PySem.W.mg_none_of X G z_range), (PySem.W.mg_none_of X G z_sorted), (PySem.W.mg_none_of X G z_repr), t_MOST_HEIGHT, (PySem.W.mg_of X G c_MOST_HEIGHT), t_MOST_COLUMNS, (PySem.W.mg_of X G c_MOST_COLUMNS), t_MOST_CARDS, (PySem.W.mg_of X G c_MOST_CARDS)⟩ : Txt K mg)⟩
end K70
open PySem PySem.W PyProof.Rows
set_option maxHeartbeats 0 in
theorem PySem.Challenge.cw_lowcolumns_k70_tops_by_sorted_columns_holds : PySem.Challenge.rw_lowcolumns_k70_tops_by_sorted_columns.Holds := by
  w_on; o_law; k_head; (case hw => w_witness2)
  k_fill
  refine Lc.walkG (l := PySem.Challenge.rw_lowcolumns_k70_tops_by_sorted_columns) (n := 63) (k := 8) (x := "script") (CX := fun _ => L2.CX0) (sp := fun w => K70.spLaw _) rfl (by decide) rfl ⟨rfl, by decide, by decide⟩ (fun w h Y => PySem.W.kIn_of Y) ?F (fun _ _ a ns hl hO hS => ⟨a, ns, rfl, Lc.scr_of hO hS, hl, fun _ => rfl⟩) (fun _ _ _ _ _ h => h)
  case F =>
    intro w mg fa h KX G hmg
    refine' K70.all_mk KX G hmg ?a0 ?l0 ?c0 ?k0 ?a1 ?l1 ?c1 ?k1 ?a2 ?l2 ?c2 ?k2 ?a3 ?l3 ?c3 ?k3 ?a4 ?l4 ?c4 ?k4 ?a5 ?l5 ?c5 ?k5 ?a6 ?l6 ?c6 ?k6 ?a7 ?l7 ?c7 ?k7 ?a8 ?l8 ?c8 ?k8 ?a9 ?l9 ?c9 ?k9 ?a10 ?l10 ?c10 ?k10 ?a11 ?l11 ?c11 ?k11 ?a12 ?l12 ?c12 ?k12 ?a13 ?l13 ?c13 ?k13 ?a14 ?l14 ?c14 ?k14 ?a15 ?l15 ?c15 ?k15 ?a16 ?l16 ?c16 ?k16 ?a17 ?l17 ?c17 ?k17 ?a18 ?l18 ?c18 ?k18 ?a19 ?l19 ?c19 ?k19 ?z_isinstance ?z_bool ?z_int ?z_len ?z_type ?z_list ?z_all ?z_min ?z_max ?z_range ?z_sorted ?z_repr ?c_MOST_HEIGHT ?c_MOST_COLUMNS ?c_MOST_CARDS
    (case a0 => k_is); (case l0 => k_is); (case c0 => k_is); (case k0 => k_is); (case a1 => k_is); (case l1 => k_is); (case c1 => k_is); (case k1 => k_is); (case a2 => k_is); (case l2 => k_is); (case c2 => k_is); (case k2 => k_is); (case a3 => k_is); (case l3 => k_is); (case c3 => k_is); (case k3 => k_is); (case a4 => k_is); (case l4 => k_is); (case c4 => k_is); (case k4 => k_is); (case a5 => k_is); (case l5 => k_is); (case c5 => k_is); (case k5 => k_is); (case a6 => k_is); (case l6 => k_is); (case c6 => k_is); (case k6 => k_is); (case a7 => k_is); (case l7 => k_is); (case c7 => k_is); (case k7 => k_is); (case a8 => k_is); (case l8 => k_is); (case c8 => k_is); (case k8 => k_is); (case a9 => k_is); (case l9 => k_is); (case c9 => k_is); (case k9 => k_is); (case a10 => k_is); (case l10 => k_is); (case c10 => k_is); (case k10 => k_is); (case a11 => k_is); (case l11 => k_is); (case c11 => k_is); (case k11 => k_is); (case a12 => k_is); (case l12 => k_is); (case c12 => k_is); (case k12 => k_is); (case a13 => k_is); (case l13 => k_is); (case c13 => k_is); (case k13 => k_is); (case a14 => k_is); (case l14 => k_is); (case c14 => k_is); (case k14 => k_is); (case a15 => k_is); (case l15 => k_is); (case c15 => k_is); (case k15 => k_is); (case a16 => k_is); (case l16 => k_is); (case c16 => k_is); (case k16 => k_is); (case a17 => k_is); (case l17 => k_is); (case c17 => k_is); (case k17 => k_is); (case a18 => k_is); (case l18 => k_is); (case c18 => k_is); (case k18 => k_is); (case a19 => k_is); (case l19 => k_is); (case c19 => k_is); (case k19 => k_is); (case z_isinstance => k_is); (case z_bool => k_is); (case z_int => k_is); (case z_len => k_is); (case z_type => k_is); (case z_list => k_is); (case z_all => k_is); (case z_min => k_is); (case z_max => k_is); (case z_range => k_is); (case z_sorted => k_is); (case z_repr => k_is); (case c_MOST_HEIGHT => k_is); (case c_MOST_COLUMNS => k_is); (case c_MOST_CARDS => k_is)

