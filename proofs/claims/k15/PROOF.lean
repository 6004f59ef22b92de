import PyProof.Rows.All
import Wide.All
import OpenK.AllK
import Wide.FinOn
import HandS.ForMost
import HandS.SortInts
import HandS.Wide
import HandS.IsInst
import HandS.Style
import HandS.Flow
import HandS.Zip
import KE.KTypeOf
import PyProof.TypeEq
import PyProof.ReprBulk
import PyProof.ReprRoads
import PyProof.Rows.RuleB_pow
import HandS.Iter
import KE.DataMinMax
import HandS.Defaults
import HandS.Conv
import HandS.NoneIn
import HandS.SortKw
import PyProof.WalkInts
import HandS.Walk
import HandS.RevRange
import HandS.Gcd
import PyProof.CallFns
import HandS.More
import PyProof.Rows.SeqMore
import HandS.ClsMeth
import HandS.Property
import HandS.Nested
import HandS.MakeKw
import KE.KSuper
import KE.OsRunLaw
import HandS.MakeKwOnly
import HandS.Words
import PySem.Challenge.RW_lowcolumns_k15_heights_recognized
set_option Elab.async false
set_option linter.all false
set_option maxRecDepth 100000
namespace Lc
open PySem PySem.Spec PyProof.Rows L2

/-! ### defs that call repr: their promise holds where no repr is under way -/
structure FnG (P : Program) (w : World) (K : PySem.W.Frag) (mg : Str → Option Value) (base : Heap)
    (CX : CXT) (k : Nat) (f : Addr) (fd : FuncData) (ps : List Str) (sp : Sp) : Prop where
  arity : ∀ vs H Q E, sp vs H Q E → vs.length = ps.length
  go : ∀ (A : Around) (outer : List Env) (s : Shared) (H : Hp) (args : Args) (us : List Value) (vs : List V) (Q : VK) (E : XK),
    A.guards = some [] → Room k A → Env0 P w K mg base A outer s H → BindsTo s fd args (ps.zip us) →
    Vals vs us → sp vs H Q E →
    codeAny (model P w) A (.call (.ref f) args) (CR CX outer P w H s Q E) s

theorem FnG.of {P : Program} {w : World} {K : PySem.W.Frag} {mg : Str → Option Value} {base : Heap} {CX : CXT} {k : Nat}
    {f : Addr} {fd : FuncData} {ps : List Str} {sp : Sp} (F : FnOk P w K mg base CX k f fd ps sp) : FnG P w K mg base CX k f fd ps sp :=
  ⟨F.len, fun A o s H a us vs Q E _ => F.run A o s H a us vs Q E⟩

section
variable {P : Program} {w : World} {K : PySem.W.Frag} {mg : Str → Option Value} {base : Heap} {CX : CXT}
/-- a def by its body, where no repr is under way -/
theorem funG {x qual : Str} {st : Stmt} {f : Addr} {fd : FuncData} {N ps : List Str} {k : Nat} {sp : Sp}
    (F : Fun K x qual st f fd) (S : FnScope N ps (defScope st)) (len : ∀ vs H Q E, sp vs H Q E → vs.length = ps.length)
    (hbody : ∀ (cdv : Value) (A : Around) (outer : List Env) (s : Shared) (H : Hp) (vs : List V) (Q : VK) (E : XK),
      A.guards = some [] → Room k (A.deeper (envOfC qual (defScope st) s.heap.objs.size f cdv)) → sp vs H Q E →
      ∃ t, PSs (cxOf CX P w K mg base N qual (defScope st) f cdv A outer s H E) (defBody st) t ∧
        t { nx := fun _ H' => Q .non H', rt := Q } (start N vs) H) :
    FnG P w K mg base CX (k + 1) f fd ps sp := by
  obtain ⟨oc, od, kV, doc, pm, an, cdv, ct, osl, rfl, lk, hcd⟩ := F.ex
  refine ⟨len, fun A outer s H args us vs Q E hgu hr e0 hb r hsp => ?_⟩
  have hl := len _ _ _ _ hsp
  have up : ∀ b o, base.get? b = some o → s.heap.get? b = some o := fun b o e => (e0.bs b o e).1
  have KX : K.In s.heap := e0.mod.kin.keeps up
  have lim : s.heap.NoLimit := e0.mod.nolimit.keeps up
  refine codeAny_call_function hr.depth (KX _ _ lk) rfl S.co S.gen rfl
    (PySem.W.codeRec_of KX hcd) (hb _ _ _ _ ?_)
  refine wpAny_newFunctionEnv_cells S.kind (fun y hy => ?_) fun env he s1 x => ?_
  · have hm := (List.of_mem_zip (show (y.1, y.2) ∈ ps.zip us from hy)).1
    cases S.par y.1 hm with
    | inl q => exact .inl q
    | inr q => exact .inr ⟨q, PySem.W.cellsFrom_some _ _ _ (.inl q)⟩
  subst he
  refine ⟨lim.keeps x.toInCall.keep, codeAny_func ?_⟩
  obtain ⟨t, ht, hq⟩ := hbody cdv A outer s H vs Q E hgu (hr.deeper _) hsp
  have I := inv_start (CX := CX) (P := P) (w := w) (qual := qual) (E := E) S hr.hd e0 hl r x
  refine wpAny_mono (ht.run [] s1 (start N vs) H _ I hq) (fun fl s' hs => ?_) (fun e s' hs => hs)
  cases fl with
  | ret u => obtain ⟨v, σ', H', J, rv, q⟩ := hs; exact ⟨v, H', J.os, J.bare, J.base, J.hok, rv, q⟩
  | next => obtain ⟨σ', H', J, q⟩ := hs; exact ⟨V.non, H', J.os, J.bare, J.base, J.hok, rfl, q⟩
  | brk => obtain ⟨_, _, _, q⟩ := hs; exact q.elim
  | cont => obtain ⟨_, _, _, q⟩ := hs; exact q.elim
end

/-- the same of a def that lets no exception out -/
theorem funG0 {P : Program} {w : World} {K : PySem.W.Frag} {mg : Str → Option Value} {base : Heap} {x qual : Str} {st : Stmt} {f : Addr} {fd : FuncData} {N ps : List Str} {k : Nat} {sp : Sp}
    (F : Fun K x qual st f fd) (S : FnScope N ps (defScope st)) (len : ∀ vs H Q E, sp vs H Q E → vs.length = ps.length)
    (hbody : ∀ (cdv : Value) (A : Around) (outer : List Env) (s : Shared) (H : Hp) (vs : List V) (Q : VK) (E : XK),
      A.guards = some [] → Room k (A.deeper (envOfC qual (defScope st) s.heap.objs.size f cdv)) → sp vs H Q E →
      ∃ t, PSs (cxOf CX0 P w K mg base N qual (defScope st) f cdv A outer s H E).nox (defBody st) t ∧
        t { nx := fun _ H' => Q .non H', rt := Q } (start N vs) H) : FnG P w K mg base CX0 (k + 1) f fd ps sp :=
  funG F S len fun cdv A outer s H vs Q E hgu hr h => by
    obtain ⟨t, ht, hq⟩ := hbody cdv A outer s H vs Q E hgu hr h
    exact ⟨t, ht.nox, hq⟩
section
variable {X : Cx} {CX : CXT} {k : Nat} {f : Addr} {fd : FuncData} {ps : List Str} {sp : Sp} {dvs : List V} {ds : List Value} {E : XK}
  {x : Str} {p pos : Pos} {e : Expr} {es : List Expr} {t tk : TA} {ks : List Str} {kws : List Keyword}
  {g : List Value → List Value → List Value} {gV : List V → List V → List V}
theorem afterG {pins : List (Addr × Obj)} {σ : L2.St} {H : Hp} {s : Shared} {Q : VK} (hx : Passes CX X E) (I : Inv X pins σ H s) {args : Args}
    (h : codeAny (model X.prog X.w) X.A (.call (.ref f) args) (CR CX X.stack X.prog X.w H s Q E) s) :
    wpAny (model X.prog X.w) X.A (call (.ref f) args.pos args.kw) (EP X pins σ Q) X.xe s := by
  refine wpAny_call (codeAny_mono h fun r s' hq => ?_)
  cases r with
  | error e => exact hx pins σ H s e s' I hq
  | ok fl => cases fl with
    | ret u => exact I.after hq
    | next => exact hq.elim
    | brk => exact hq.elim
    | cont => exact hq.elim
/-- f(e, ..) of such a def -/
theorem pe_callG (F : FnG X.prog X.w X.K X.mg X.base CX k f fd ps sp) (hgu : X.A.guards = some []) (hr : Room k X.A)
    (hg : Gl X x) (hm : X.mg x = some (.ref f)) (hk : PySem.W.keepIn X.K (.ref f) = true) (hb : Binds X.K fd ps ds)
    (hd : Vals dvs ds) (hx : Passes CX X E) (ha : PA X (e :: es) t)
    (hdb : (x == ("__debug__" : Str)) = false := by decide)
    (he : starEach (e :: es) X.env = (false, eval e X.env) :: starEach es X.env := by rfl)
    (hpl : (backTo pos (starEach es X.env)).any (·.1) = false := by rfl) :
    PE X (.Call (.Name x p) (e :: es) [] pos) (tCall sp dvs E t) := by
  refine ⟨fun pins s σ H Q I h => wpAny_Call_Name_kw (ld_glob I hg hm ?_ hdb)⟩
  refine PySem.W.callWith_K (h₀ := X.base) I.ok.mod.kin hk
    (thn (ha.run pos pins s σ H _ I h) fun us s1 ⟨vs, H1, I1, r, q⟩ => ⟨I1.kIn, ?_⟩) he hpl
  have r2 : Vals (vs ++ dvs) (us ++ ds) := r.append hd
  have hl : (us ++ ds).length = ps.length := r2.length.symm.trans (F.arity _ _ _ _ q)
  exact afterG hx I1 (F.go X.A X.stack s1 H1 ⟨us, []⟩ (us ++ ds) (vs ++ dvs) Q E hgu hr I1.env0 (hb s1 us I1.kIn hl) r2 q)
/-- f(k = v, ..), every argument by its name -/
theorem pe_callK0 (F : FnOk X.prog X.w X.K X.mg X.base CX k f fd ps sp) (hr : Room k X.A) (hg : Gl X x)
    (hm : X.mg x = some (.ref f)) (hk : PySem.W.keepIn X.K (.ref f) = true) (hb : KBinds X.K fd ps ks g gV) (hx : Passes CX X E)
    (hkw : PK X kws tk) (hall : (backToKw pos (keywordEach kws X.env)).all (·.1.isSome) = true := by rfl)
    (hks : (backToKw pos (keywordEach kws X.env)).filterMap (·.1) = ks := by rfl)
    (hdb : (x == ("__debug__" : Str)) = false := by decide)
    (hpl : ((backTo pos (starEach [] X.env)).any (·.1) || (backToKw pos (keywordEach kws X.env)).any (·.1.isNone)) = false := by rfl) :
    PE X (.Call (.Name x p) [] kws pos) (tCallK sp gV E tNil tk) := by
  refine ⟨fun pins s σ H Q I h => wpAny_Call_Name_kw (ld_glob I hg hm ?_ hdb)⟩
  refine PySem.W.callWith_KW0 (first := []) (h₀ := X.base) I.ok.mod.kin hk hall
    (thn (hkw.run pos pins s σ H _ I h) fun ws s1 ⟨zs, H1, I1, rz, q⟩ => ⟨I1.kIn, ?_⟩) hpl
  rw [hks]
  exact run_fnk (us := []) (vs := []) F hr hb hx I1 .nil rz q
end

/-! ### repr of data -/
/-- data whose repr is known and short: ints of at most 100 signs -/
structure Nice (d : PyData) : Prop where
  sh : d.showable = true
  nd : d.hasDict = false
  dp : d.depth ≤ 40
  lf : d.leavesShort 100 = true
  bk : d.bulk ≤ 100000
def rReprD (K : PySem.W.Frag) : List V → Hp → VK → Prop := fun xs H Q => ∃ a d, xs = [V.ref a] ∧ Dp K H (.ref a) d ∧ Nice d ∧ Q (.str d.shown) H
theorem call_repr_D {X : Cx} (hg : X.A.guards = some []) (hu : X.A.units + 64 < cLine) : CallR X (.builtin "repr") (rReprD X.K) := by
  intro pins s σ H xs us Q I r h
  obtain ⟨a, d, rfl, hd, n, q⟩ := h
  obtain ⟨u, rfl, ru⟩ := vals1 r
  obtain rfl : u = Value.ref a := ru
  obtain ⟨as, rd⟩ := Dp.reads I d (.ref a) (.ref a) hd rfl
  refine repr_of_reads' rd n.sh (PyData.noDict_hsm n.nd) hg (by have := n.dp; omega) (fun _ _ e => e) (fun h' v tk hk => ?_) ?_
  · exact ⟨.str d.shown, H, I.kept hk, ⟨_, rfl⟩, q⟩
  · have := PyData.shown_le_bulk 100 (by decide) d n.lf
    have := n.bk
    rw [sizeLine_eq]
    omega

/-! ### type(x), == of two built-in types -/
def rTypeX (K : PySem.W.Frag) : List V → Hp → VK → Prop := fun xs H Q => ∃ x T, xs = [x] ∧ TyX K H x (.type T) ∧ Q (.ty T) H
theorem call_type_list {X : Cx} : CallR X (.type "type") (fun xs H Q => ∃ a ys, xs = [V.ref a] ∧ SqL X.K H a ys ∧ Q (.ty "list") H) := by
  intro pins s σ H xs us Q I r h
  obtain ⟨a, ys, rfl, hs, q⟩ := h
  obtain ⟨u, rfl, ru⟩ := vals1 r
  obtain rfl : u = Value.ref a := ru
  obtain ⟨its, rv, pl, hz⟩ := I.list hs
  have ty : s.TypeIs (.ref a) "list" := pl.isList.typeIs
  exact PySem.call_type_of ty (by decide +kernel) ⟨.ty "list", H, I, rfl, q⟩
/-- == of the class list and the class list -/
def rEqTy : R2 := fun x y H Q => x = V.ty "list" ∧ y = V.ty "list" ∧ Q (V.bl true) H
theorem op_eqTy {X : Cx} : OpR X (compareOp .Eq) rEqTy := by
  intro pins s σ H x y v u Q I rx ry h
  obtain ⟨e1, e2, q⟩ := h
  subst e1
  subst e2
  have e3 : v = Value.type "list" := rx
  have e4 : u = Value.type "list" := ry
  subst e3
  subst e4
  have fin : EP X pins σ Q (Value.bool true) s := ⟨.bl true, H, I, rfl, q⟩
  exact PySem.TypeEq.eq_type_same (X := "list") PySem.TypeEq.meta_list fin
def CPowW (i j : Int) : Prop := 0 ≤ j ∧ (Builtin.Int.intBits i : Int) * j ≤ 2 ^ 27
theorem op_powW {X : Cx} : OpR X (binaryOp .Pow) (rI CPowW fun i j => .int (i ^ j.toNat)) := opI fun _ _ _ _ _ _ _ hc q => PyProof.Rows.pow_int hc.1 hc.2 q
theorem fdivW {i j : Int} (h0 : 0 < j) (h : j ≤ 100000000000000000000000000000000) : CDivW i j := by
  refine wide_div (b := 130) h0 ?_ (by decide) (by decide)
  have e : (2 : Nat) ^ 130 = 1361129467683753853853498429727072845824 := by decide +kernel
  rw [e]
  omega

/-- len(x) in a comprehension's block: the reading by K -/
def rLenK (K : PySem.W.Frag) : List V → Hp → VK → Prop := fun xs H Q => ∃ p ys, xs = [V.ref p] ∧ (SqL K H p ys ∨ SqT K H p ys) ∧ Q (.int (ys.length : Nat)) H

/-! ### heaps -/
/-- all that was tracked, but what stands at a, is as it was -/
def But (a : Addr) (H H' : Hp) : Prop := ∀ b o, b ≠ a → H b = some o → H' b = some o
theorem But.of {a : Addr} {H H' : Hp} (h : Same H H') : But a H H' := fun b o _ e => h b o e
theorem But.refl (a : Addr) (H : Hp) : But a H H := fun _ _ _ e => e
theorem But.trans {a : Addr} {H H1 H2 : Hp} (x : But a H H1) (y : But a H1 H2) : But a H H2 := fun b o n e => y b o n (x b o n e)
theorem But.upd (a : Addr) (H : Hp) (o : HO) : But a H (upd H a o) := fun b u n e => by rw [upd_ne n]; exact e
theorem same_new {H : Hp} {p : Addr} (o : HO) (h : H p = none) : Same H (upd H p o) := fun b x e => by
  rw [upd_ne (ne_of_none e h)]; exact e
theorem But.new {a : Addr} {H H1 : Hp} {p : Addr} (o : HO) (x : But a H H1) (h : H1 p = none) : But a H (L2.upd H1 p o) := x.trans (But.of (same_new o h))
/-- what was new and is changed: all else is as it was -/
theorem same_but {H H1 H2 : Hp} {p : Addr} (s : Same H H1) (n : H p = none) (b : But p H1 H2) : Same H H2 := fun c o e =>
  b c o (ne_of_none e n) (s c o e)
/-- a list that is read, at another place than a -/
def Oth (K : PySem.W.Frag) (a : Addr) (H : Hp) (l : Addr) (xs : List V) : Prop := SqL K H l xs ∧ (l ≠ a ∨ H l = none)
theorem But.seq {K : PySem.W.Frag} {a l : Addr} {H H' : Hp} {xs : List V} (b : But a H H') (h : SqL K H l xs) (n : l ≠ a) : SqL K H' l xs := by
  rcases h with (h | ⟨o, h⟩) | h
  · exact .inl (.inl (b _ _ n h))
  · exact .inl (.inr ⟨o, b _ _ n h⟩)
  · exact .inr h
/-- the script: locked, or of the module -/
def Scr (K : PySem.W.Frag) (H : Hp) (a : Addr) (xs : List V) : Prop := (∃ o, H a = some (.frz o (.lst xs))) ∨ ∀ H', SqL K H' a xs
theorem Scr.sq {K : PySem.W.Frag} {H : Hp} {a : Addr} {xs : List V} (h : Scr K H a xs) : SqL K H a xs := by
  rcases h with ⟨o, h⟩ | h
  · exact .inl (.inr ⟨o, h⟩)
  · exact h H
theorem scr_of {K : PySem.W.Frag} {H : Hp} {a : Addr} {xs : List V} (hO : Only H) (h : SqL K H a xs) : Scr K H a xs := by
  rcases h with (h | ⟨o, h⟩) | h
  · rcases hO a with z | ⟨o, ys, z⟩ <;> (rw [h] at z; cases z)
  · exact .inl ⟨o, h⟩
  · exact .inr fun _ => .inr h
theorem Scr.same {K : PySem.W.Frag} {H H' : Hp} {a : Addr} {xs : List V} (h : Scr K H a xs) (s : Same H H') : Scr K H' a xs := by
  rcases h with ⟨o, h⟩ | h
  · exact .inl ⟨o, s _ _ h⟩
  · exact .inr h
theorem Scr.but {K : PySem.W.Frag} {H H' : Hp} {a p : Addr} {xs : List V} (h : Scr K H a xs) (n : ∀ o u, H p ≠ some (.frz o u)) (b : But p H H') : Scr K H' a xs := by
  rcases h with ⟨o, h⟩ | h
  · exact .inl ⟨o, b _ _ (fun e => n _ _ (e ▸ h)) h⟩
  · exact .inr h

/-! ### loops in the shape that our promises have -/
theorem ite_t {c A B : Prop} [Decidable c] (hc : c) (h : A) : if c then A else B := by rw [if_pos hc]; exact h
theorem ite_f {c A B : Prop} [Decidable c] (hc : ¬ c) (h : B) : if c then A else B := by rw [if_neg hc]; exact h
theorem same_set {H H1 : Hp} {p : Addr} {o : HO} (s : Same H H1) (n : H p = none) : Same H (upd H1 p o) := fun b u e => by
  rw [upd_ne (ne_of_none e n)]
  exact s b u e
theorem same_lay {H H1 : Hp} {p : Addr} {o : HO} (s : Same H H1) (n : H1 p = none) : Same H (upd H1 p o) := same_set s (s.free n)
theorem take_map_succ {α β : Type} (f : α → β) {xs : List α} {i : Nat} {x : α} (h : xs[i]? = some x) : (xs.take i).map f ++ [f x] = (xs.take (i + 1)).map f := by
  rw [List.take_add_one, h, List.map_append]
  rfl
theorem get_map {α β : Type} {f : α → β} {xs : List α} {i : Nat} {y : β} (h : (xs.map f)[i]? = some y) : ∃ x, xs[i]? = some x ∧ y = f x := by
  rw [List.getElem?_map] at h
  cases e : xs[i]? with
  | none => rw [e] at h; cases h
  | some x => rw [e] at h; exact ⟨x, rfl, (Option.some.inj h).symm⟩
theorem get_lt {α : Type} {xs : List α} {i : Nat} {x : α} (h : xs[i]? = some x) : i < xs.length := (List.getElem?_eq_some_iff.mp h).1
theorem small_of {n m : Nat} (h : n ≤ m) (hm : m ≤ 100000) : n < sizeLine := by rw [sizeLine_eq]; omega
theorem small_le {n m : Nat} (h : n ≤ m) (hm : m ≤ 100000) : n ≤ sizeLine := by rw [sizeLine_eq]; omega
/-- ints of a list within bounds -/
def within (lo hi : Int) (ns : List Int) : Bool := ns.all fun n => decide (lo ≤ n ∧ n ≤ hi)
theorem bits_le {x : Int} {b : Nat} (h : x.natAbs < 2 ^ b) (hb : 0 < b) : Builtin.Int.intBits x ≤ b := by
  have l := PySem.Flt.log2_lt_of hb h
  unfold Builtin.Int.intBits
  split <;> omega

/-! ### the end of a law's row, where the law calls repr -/
theorem nil_no {α : Type} {b : α} (h : b ∈ ([] : List α)) {p : Prop} : p := by cases h
theorem lawG {P : Program} {w : World} {K : PySem.W.Frag} {mg mb : Str → Option Value} {CX : CXT} {k : Nat} {fa a : Addr} {fd : FuncData} {x : Str} {sp : Sp} {s₁ : Shared} {vs : List Value} {ns : List Int}
    (KX : K.In s₁.heap) (hns : s₁.heap.Ns mainGlobals mg) (hb : s₁.heap.Ns builtinsNs mb) (hbb : ∀ x : Str, x ≠ "__name__" → mb x = bootBuiltins x)
    (hlim : s₁.heap.NoLimit) (hg : s₁.gens = #[]) (ha : s₁.heap.get? a = some { cls := .type "list", data := .seq vs.toArray })
    (hi : IntsAre vs ns) (hl : ns.length ≤ sizeLine) (hr : Room k callerA)
    (F : ∀ base : Heap, K.In base → base.Ns mainGlobals mg → FnG P w K mg base CX k fa fd [x] sp)
    (hbind : ∀ (s : Shared) (u : Value), BindsTo s fd ⟨[u], []⟩ [(x, u)])
    (hsp : ∀ H : Hp, Only H → SqL K H a (ns.map V.int) → sp [.ref a] H (fun v _ => v = .bl true) fun _ _ _ => False)
    (hCX : ∀ H e s', CX [] H s₁ (fun _ _ _ => False) e s' → False) :
    codeAny (model P w) callerA (.call (.ref fa) ⟨[.ref a], []⟩)
      (fun r s' => r = .ok (.ret (.bool true)) ∧ OldK s₁.heap s'.heap ∧ s'.os = s₁.os ∧ AllBare s'.gens) s₁ := by
  have rv := vals_ints hi
  have lenV := hi.length
  /- H: what is tracked at the entry, the script at most -/
  have core : ∀ H : Hp, Only H → SqL K H a (ns.map V.int) → HOk P w H s₁.heap → (∀ b, H b ≠ none → b = a) →
      (H a ≠ none → K.lookup a = none) →
      codeAny (model P w) callerA (.call (.ref fa) ⟨[.ref a], []⟩)
        (fun r s' => r = .ok (.ret (.bool true)) ∧ OldK s₁.heap s'.heap ∧ s'.os = s₁.os ∧ AllBare s'.gens) s₁ := by
    intro H hO hS ok hA hK
    have onlyA : ∀ {b : Addr}, (b = a → False) → H b = none := fun {b} hn => by
      cases q : H b with
      | none => rfl
      | some u => exact (hn (hA b (by rw [q]; exact fun z => nomatch z))).elim
    have nsK : ∀ {b : Addr} {m : Str → Option Value}, s₁.heap.Ns b m → (hidT s₁.heap H).Ns b m := by
      rintro b m ⟨o, es, ep, e, d, r⟩
      refine ⟨o, es, ep, hidT_get e (onlyA fun z => ?_), d, r⟩
      subst z
      rw [ha] at e
      cases e
      exact nomatch d
    have hKb : K.In (hidT s₁.heap H) := fun b o e => by
      refine hidT_get (KX b o e) ?_
      cases q : H b with
      | none => rfl
      | some u =>
        have e' : b = a := hA b (by rw [q]; exact fun z => nomatch z)
        subst e'
        rw [hK (by rw [q]; exact fun z => nomatch z)] at e
        cases e
    obtain ⟨mc, h1, h2⟩ := hlim
    have hM : Mod K mg (hidT s₁.heap H) := ⟨hKb, nsK hns, ⟨mb, nsK hb, hbb⟩, ⟨mc, nsK h1, h2⟩⟩
    have e0 : Env0 P w K mg (hidT s₁.heap H) callerA [] s₁ H :=
      ⟨rfl, hM, fun b o e => of_hidT e, Nat.le_of_eq (hidT_size _ _), trivial, (fun b z => nil_no z), ok, AllBare.of_eq hg⟩
    have run := (F _ hKb (nsK hns)).go callerA [] s₁ H ⟨[.ref a], []⟩ [.ref a] [.ref a] _ _ rfl hr e0 (hbind s₁ (.ref a)) (.cons rfl .nil) (hsp H hO hS)
    refine codeAny_mono run fun r s' h => ?_
    match r, h with
    | .error e, h => exact (hCX H e s' h).elim
    | .ok .next, h => exact h.elim
    | .ok .brk, h => exact h.elim
    | .ok .cont, h => exact h.elim
    | .ok (.ret u), h =>
      obtain ⟨v, H', os, bare, un, hok', r', q⟩ := h
      obtain rfl : v = .bl true := q
      obtain rfl : u = Value.bool true := r'
      refine ⟨rfl, OldK.of_keep fun b o e => ?_, os, bare⟩
      rcases hO b with z | ⟨ob, xs, z⟩
      · exact un.keep b o e z (fun y => nil_no y) (fun y => nil_no y)
      · have e1 := (ok b _ z).1
        have e2 := (hok' b _ (un.frzs b ob _ z)).1
        rw [e] at e1
        cases e1
        exact e2
  cases hk : K.lookup a with
  | some o =>
    have e := KX a o hk
    rw [ha] at e
    cases e
    refine core (fun _ => none) (fun _ => .inl rfl) (.inr ⟨_, vs.toArray, _, hk, rfl, rfl, rfl, ?_, by simpa using rv⟩) ?_ (fun b z => absurd rfl z) (fun z => absurd rfl z)
    · rw [List.size_toArray, lenV]
      exact hl
    · intro b u z
      exact nomatch (show (none : Option HO) = some u from z)
  | none =>
    have at_ : ∀ b u, (if b = a then some (HO.frz { cls := .type "list", data := .seq vs.toArray } (.lst (ns.map V.int))) else none) = some u → b = a ∧ u = HO.frz { cls := .type "list", data := .seq vs.toArray } (.lst (ns.map V.int)) := fun b u z => by
      by_cases hb : b = a
      · rw [if_pos hb] at z
        exact ⟨hb, (Option.some.inj z).symm⟩
      · rw [if_neg hb] at z
        cases z
    refine core (fun b => if b = a then some (HO.frz { cls := .type "list", data := .seq vs.toArray } (.lst (ns.map V.int))) else none) (fun b => ?_) (.inl (.inr ⟨{ cls := .type "list", data := .seq vs.toArray }, if_pos rfl⟩)) (fun b u z => ?_) (fun b z => ?_) fun _ => hk
    · by_cases hb : b = a
      · exact .inr ⟨_, _, if_pos hb⟩
      · exact .inl (if_neg hb)
    · obtain ⟨hb, rfl⟩ := at_ b u z
      subst hb
      exact ⟨ha, by rw [List.length_map]; exact hl, vs, _, rv, ha⟩
    · by_cases hb : b = a
      · exact hb
      · exact absurd (if_neg hb) z
/-- the goal that the head leaves, from such a promise of the law's def -/
theorem walkG {l : PySem.W.OpenLaw} {n k : Nat} {q : Program} {loose : List Str} {XP : (Str → Option Value) → Heap → Prop} {YP : World → Heap → Prop} {d : DefRec} {K : Params → PySem.W.Frag} {CX : World → CXT} {sp : World → Sp} {x : Str}
    (hn : l.most = some n) (hn2 : n ≤ sizeLine) (hdf : d.params.defaults = []) (hr : Room k callerA) (hY : ∀ (w : World) (h : Heap), YP w h → (K w.params).In h)
    (F : ∀ (w : World) (mg : Str → Option Value) (fa : Addr) (h : Heap), (K w.params).In h → h.Ns mainGlobals mg → mg d.name = some (.ref fa) →
      ∃ fd : FuncData, (∀ (s : Shared) (u : Value), BindsTo s fd ⟨[u], []⟩ [(x, u)]) ∧ ∀ base : Heap, (K w.params).In base → base.Ns mainGlobals mg → FnG l.prog w (K w.params) mg base (CX w) k fa fd [x] (sp w))
    (hsp : ∀ (w : World) (H : Hp) (a : Addr) (ns : List Int), ns.length ≤ n → Only H → SqL (K w.params) H a (ns.map V.int) → sp w [.ref a] H (fun v _ => v = .bl true) fun _ _ _ => False)
    (hCX : ∀ (w : World) (H : Hp) (s : Shared) (e : Value) (s' : Shared), CX w [] H s (fun _ _ _ => False) e s' → False) :
    PySem.W.WalkO q loose XP YP l.row.toRowW d [] (fun f vs => PySem.call f vs) := by
  refine Att.attach_call hn hdf fun w s₀ s₁ mg mb fa o pm cd doc a vs ns G Y ho hd hcd hmg hobj hints hlen hg => ?_
  have KX := hY w _ Y
  obtain ⟨fd, hb, hF⟩ := F w mg fa _ KX G.T.g hmg
  exact lawG KX G.T.g G.T.b G.T.builtins G.T.nolimit hg hobj hints (Nat.le_trans hlen hn2) hr hF hb (fun H hO hS => hsp w H a ns hlen hO hS) (fun H e s' => hCX w H s₁ e s')
end Lc

/-! the mathematics of layouts: plain Lean -/
namespace Lc
/-- the first place of m -/
def ix (m : Int) : List Int → Nat
  | [] => 0
  | x :: xs => if x = m then 0 else ix m xs + 1
theorem ix_get {m : Int} : ∀ {cs : List Int}, m ∈ cs → cs[ix m cs]? = some m
  | [], h => by cases h
  | x :: xs, h => by
    unfold ix
    by_cases e : x = m
    · rw [if_pos e, e]; rfl
    · rw [if_neg e, List.getElem?_cons_succ]
      exact ix_get ((List.mem_cons.mp h).resolve_left fun z => e z.symm)
theorem ix_first {m : Int} : ∀ {cs : List Int} {k : Nat} {z : Int}, k < ix m cs → cs[k]? = some z → z ≠ m
  | [], k, z, h, e => by cases e
  | x :: xs, k, z, h, e => by
    unfold ix at h
    by_cases q : x = m
    · rw [if_pos q] at h; omega
    · rw [if_neg q] at h
      cases k with
      | zero => exact fun r => q ((Option.some.inj e).trans r)
      | succ k => exact ix_first (m := m) (cs := xs) (k := k) (by omega) (by simpa using e)
/-- the least item -/
def mn : List Int → Int
  | [] => 0
  | [x] => x
  | x :: y :: r => if x ≤ mn (y :: r) then x else mn (y :: r)
theorem mn_spec : ∀ {cs : List Int}, cs ≠ [] → mn cs ∈ cs ∧ ∀ y ∈ cs, mn cs ≤ y
  | [], h => absurd rfl h
  | [x], _ => ⟨List.mem_singleton.mpr rfl, fun y hy => by rw [List.mem_singleton.mp hy]; exact Int.le_refl _⟩
  | x :: y :: r, _ => by
    have ih := mn_spec (cs := y :: r) (by simp)
    show (if x ≤ mn (y :: r) then x else mn (y :: r)) ∈ _ ∧ ∀ z ∈ x :: y :: r, (if x ≤ mn (y :: r) then x else mn (y :: r)) ≤ z
    by_cases h : x ≤ mn (y :: r)
    · rw [if_pos h]
      refine ⟨List.mem_cons_self, fun z hz => ?_⟩
      rcases List.mem_cons.mp hz with rfl | hz
      · exact Int.le_refl _
      · exact Int.le_trans h (ih.2 z hz)
    · rw [if_neg h]
      refine ⟨List.mem_cons_of_mem _ ih.1, fun z hz => ?_⟩
      rcases List.mem_cons.mp hz with rfl | hz
      · omega
      · exact ih.2 z hz
theorem mn_eq {cs : List Int} {m : Int} (h : m ∈ cs) (h2 : ∀ y ∈ cs, m ≤ y) : mn cs = m := by
  have hn : cs ≠ [] := fun e => by rw [e] at h; cases h
  have s := mn_spec hn
  exact Int.le_antisymm (s.2 m h) (h2 _ s.1)
/-- the left one, or the right one, of the lowest columns -/
def low (r : Bool) (cs : List Int) : Nat := if r = true then cs.length - 1 - ix (mn cs) cs.reverse else ix (mn cs) cs
theorem low_get {r : Bool} {cs : List Int} (h : cs ≠ []) : cs[low r cs]? = some (mn cs) := by
  have s := (mn_spec h).1
  unfold low
  cases r with
  | false => rw [if_neg (by simp)]; exact ix_get s
  | true =>
    rw [if_pos rfl]
    have g := ix_get (cs := cs.reverse) (List.mem_reverse.mpr s)
    have l := (List.getElem?_eq_some_iff.mp g).1
    rw [List.getElem?_reverse (by simpa using l)] at g
    exact g
theorem low_lt {r : Bool} {cs : List Int} (h : cs ≠ []) : low r cs < cs.length := (List.getElem?_eq_some_iff.mp (low_get h)).1
/-- one card -/
def put (r : Bool) (s : List (Nat × Int) × List Int) (h : Int) : List (Nat × Int) × List Int :=
  (s.1 ++ [(low r s.2, mn s.2)], s.2.set (low r s.2) (mn s.2 + h))
/-- the places (column, top) of the cards, the columns behind them -/
def play (r : Bool) (cs hs : List Int) : List (Nat × Int) × List Int := hs.foldl (put r) ([], cs)
theorem play_snoc (r : Bool) (cs hs : List Int) (h : Int) : play r cs (hs ++ [h]) = put r (play r cs hs) h := by
  unfold play
  rw [List.foldl_append]
  rfl
theorem play_take {r : Bool} {cs hs : List Int} {i : Nat} {h : Int} (e : hs[i]? = some h) : play r cs (hs.take (i + 1)) = put r (play r cs (hs.take i)) h := by
  rw [List.take_add_one, e]
  exact play_snoc r cs _ h
theorem fold_len2 (r : Bool) : ∀ (hs : List Int) (s : List (Nat × Int) × List Int), (hs.foldl (put r) s).2.length = s.2.length ∧ (hs.foldl (put r) s).1.length = s.1.length + hs.length
  | [], s => ⟨rfl, rfl⟩
  | h :: hs, s => by
    have q := fold_len2 r hs (put r s h)
    refine ⟨q.1.trans (List.length_set ..), q.2.trans ?_⟩
    show (s.1 ++ [_]).length + hs.length = s.1.length + (hs.length + 1)
    rw [List.length_append]
    simp only [List.length_cons, List.length_nil]
    omega
theorem play_cols (r : Bool) (cs hs : List Int) : (play r cs hs).2.length = cs.length := (fold_len2 r hs _).1
theorem play_len (r : Bool) (cs hs : List Int) : (play r cs hs).1.length = hs.length := by
  have := (fold_len2 r hs ([], cs)).2
  simpa [play] using this
theorem ixN_nat {n j : Nat} (h : j < n) : L2.ixN n (j : Int) = some j := by
  unfold L2.ixN
  rw [if_pos (by omega), if_pos (by omega)]
  rfl
theorem play_append (r : Bool) (cs xs ys : List Int) : play r cs (xs ++ ys) = ys.foldl (put r) (play r cs xs) := List.foldl_append ..
theorem fold_pre (r : Bool) : ∀ (hs : List Int) (s : List (Nat × Int) × List Int), ∃ t, (hs.foldl (put r) s).1 = s.1 ++ t
  | [], s => ⟨[], (List.append_nil _).symm⟩
  | h :: hs, s => by
    obtain ⟨t, e⟩ := fold_pre r hs (put r s h)
    refine ⟨(low r s.2, mn s.2) :: t, e.trans ?_⟩
    show (s.1 ++ [_]) ++ t = _
    rw [List.append_assoc]
    rfl
/-- the i-th place is found by the first i cards -/
theorem play_at {r : Bool} {cs hs : List Int} {i : Nat} {h : Int} (e : hs[i]? = some h) : (play r cs hs).1[i]? = some (low r (play r cs (hs.take i)).2, mn (play r cs (hs.take i)).2) := by
  have il : i < hs.length := (List.getElem?_eq_some_iff.mp e).1
  have e1 : hs = hs.take (i + 1) ++ hs.drop (i + 1) := (List.take_append_drop _ _).symm
  obtain ⟨t, et⟩ := fold_pre r (hs.drop (i + 1)) (play r cs (hs.take (i + 1)))
  have e2 : (play r cs hs).1 = (play r cs (hs.take (i + 1))).1 ++ t := by
    conv => lhs; rw [e1, play_append]
    exact et
  have l1 : (play r cs (hs.take i)).1.length = i := by
    have := (fold_len2 r (hs.take i) ([], cs)).2
    simp only [play] at this ⊢
    rw [this, List.length_take]
    simp only [List.length_nil]
    omega
  rw [e2, play_take e]
  show ((play r cs (hs.take i)).1 ++ [_] ++ t)[i]? = _
  rw [List.append_assoc, List.getElem?_append_right (by omega), l1, Nat.sub_self]
  rfl
/-- the tops, the end -/
def tops (cs hs : List Int) : List Int := (play false cs hs).1.map (·.2)
def ends (cs hs : List Int) : List Int := (play false cs hs).2
theorem tops_len (cs hs : List Int) : (tops cs hs).length = hs.length := by
  unfold tops
  rw [List.length_map, play_len]
theorem play_ne {r : Bool} {cs hs : List Int} (h : cs ≠ []) : (play r cs hs).2 ≠ [] := fun e => h (List.length_eq_zero_iff.mp (by rw [← play_cols r cs hs, e]; rfl))
end Lc

namespace Lc
open PySem PySem.Spec PyProof.Rows L2
/-- data of depth at most k and N items at most, ints of at most 90 digits -/
structure Nc (k N : Nat) (d : PyData) : Prop where
  sh : d.showable = true
  cl : d.canLay0 = true
  dp : d.depth ≤ k
  lf : d.leavesShort 100 = true
  bk : d.bulk ≤ N
theorem nc_int {i : Int} (h : i.natAbs < 10 ^ 90) : Nc 0 0 (.int i) := by
  refine ⟨?_, rfl, Nat.le_refl _, ?_, Nat.le_refl _⟩
  · show decide (i.natAbs.log2 < 1920) = true
    have e : (10 : Nat) ^ 90 ≤ 2 ^ 1000 := by decide +kernel
    exact decide_eq_true (Nat.lt_trans (PySem.Flt.log2_lt_of (by decide) (Nat.lt_of_lt_of_le h e)) (by decide))
  · simp only [PyData.leavesShort, decide_eq_true_eq]
    have := int_text_length_le10 (a := i) (k := 90) (by decide) h
    show (Str.ofString (toString i)).length ≤ 100
    rw [PySem.ofString_length]
    omega
theorem nc_all {k N : Nat} : ∀ {ds : List PyData}, (∀ d ∈ ds, Nc k N d) → PyData.showableAll ds = true ∧ PyData.canLayAll0 ds = true ∧ PyData.depthAll ds ≤ k ∧ PyData.leavesShortAll 100 ds = true ∧ PyData.bulkAll ds ≤ ds.length * (N + 1)
  | [], _ => ⟨rfl, rfl, Nat.zero_le _, rfl, Nat.zero_le _⟩
  | d :: ds, h => by
    have h1 := h d List.mem_cons_self
    obtain ⟨a, b, c, e, f⟩ := nc_all fun x hx => h x (List.mem_cons_of_mem d hx)
    refine ⟨?_, ?_, ?_, ?_, ?_⟩
    · simp only [PyData.showableAll, h1.sh, a, Bool.and_self]
    · simp only [PyData.canLayAll0, h1.cl, b, Bool.and_self]
    · simp only [PyData.depthAll]
      exact Nat.max_le.mpr ⟨h1.dp, c⟩
    · simp only [PyData.leavesShortAll, h1.lf, e, Bool.and_self]
    · simp only [PyData.bulkAll, List.length_cons]
      have := h1.bk
      rw [Nat.add_mul]
      omega
theorem nc_list {k N : Nat} {ds : List PyData} (h : ∀ d ∈ ds, Nc k N d) : Nc (k + 1) (ds.length * (N + 1)) (.list ds) := by
  obtain ⟨a, b, c, e, f⟩ := nc_all h
  refine ⟨by simpa only [PyData.showable] using a, by simpa only [PyData.canLay0] using b, ?_, by simpa only [PyData.leavesShort] using e, by simpa only [PyData.bulk] using f⟩
  simp only [PyData.depth]
  omega
theorem nc_tup {k N : Nat} {ds : List PyData} (h : ∀ d ∈ ds, Nc k N d) : Nc (k + 1) (ds.length * (N + 1)) (.tuple ds) := by
  obtain ⟨a, b, c, e, f⟩ := nc_all h
  refine ⟨by simpa only [PyData.showable] using a, by simpa only [PyData.canLay0] using b, ?_, by simpa only [PyData.leavesShort] using e, by simpa only [PyData.bulk] using f⟩
  simp only [PyData.depth]
  omega
theorem Nc.mono {k N k' N' : Nat} {d : PyData} (h : Nc k N d) (h1 : k ≤ k') (h2 : N ≤ N') : Nc k' N' d := ⟨h.sh, h.cl, Nat.le_trans h.dp h1, h.lf, Nat.le_trans h.bk h2⟩
theorem Nc.nice {k N : Nat} {d : PyData} (h : Nc k N d) (h1 : k ≤ 40) (h2 : N ≤ 100000) : Nice d :=
  ⟨h.sh, PyData.hasDict_of_canLay d h.cl, Nat.le_trans h.dp h1, h.lf, Nat.le_trans h.bk h2⟩
theorem Nc.shaped {k N : Nat} {d : PyData} (h : Nc k N d) (h1 : k ≤ 40) : SeqAt.shaped d = true := by
  unfold SeqAt.shaped
  rw [h.cl, Bool.true_and]
  exact decide_eq_true (Nat.le_trans h.dp (by omega))
theorem nc_ints {ns : List Int} {N : Nat} (h : ∀ n ∈ ns, n.natAbs < 10 ^ 90) (hl : ns.length ≤ N) : Nc 1 N (.list (ns.map PyData.int)) := by
  have q := nc_list (k := 0) (N := 0) (ds := ns.map PyData.int) fun d hd => by
    obtain ⟨n, hn, rfl⟩ := List.mem_map.mp hd
    exact nc_int (h n hn)
  rw [List.length_map] at q
  exact q.mono (by decide) (by omega)
/-- any list of ints is data that == reads -/
theorem shapedInts (ns : List Int) : SeqAt.shaped (.list (ns.map PyData.int)) = true := by
  have a : ∀ ns : List Int, PyData.canLayAll0 (ns.map PyData.int) = true ∧ PyData.depthAll (ns.map PyData.int) = 0 := fun ns => by
    induction ns with
    | nil => exact ⟨rfl, rfl⟩
    | cons n ns ih => exact ⟨by simp only [List.map_cons, PyData.canLayAll0, PyData.canLay0, ih.1, Bool.and_self], by simp only [List.map_cons, PyData.depthAll, PyData.depth, ih.2]; rfl⟩
  unfold SeqAt.shaped
  simp only [PyData.canLay0, PyData.depth, (a ns).1, (a ns).2]
  decide
theorem dpInts {K : PySem.W.Frag} {H : Hp} : ∀ ns : List Int, DpAll K H (ns.map V.int) (ns.map PyData.int)
  | [] => .nil
  | n :: ns => .cons (.int n) (dpInts ns)
end Lc

namespace Lc
open PySem PySem.Spec PyProof.Rows L2
/-! columns as sorted lists -/
def Sorted (l : List Int) : Prop := l.Pairwise (· ≤ ·)
theorem set_perm : ∀ (ls : List Int) (j : Nat) (v : Int), j < ls.length → (ls.set j v).Perm (v :: ls.eraseIdx j)
  | [], _, _, h => absurd h (by simp)
  | _ :: _, 0, _, _ => List.Perm.refl _
  | x :: ls, j + 1, v, h => by
    have h' : j < ls.length := by simpa using h
    show (x :: ls.set j v).Perm (v :: x :: ls.eraseIdx j)
    exact ((set_perm ls j v h').cons x).trans (List.Perm.swap v x _)
theorem erase_perm : ∀ (ls : List Int) (j : Nat) (x : Int), ls[j]? = some x → (x :: ls.eraseIdx j).Perm ls
  | [], _, _, h => by cases h
  | y :: _, 0, x, h => by cases h; exact List.Perm.refl _
  | y :: ls, j + 1, x, h => by
    have h' : ls[j]? = some x := by simpa using h
    show (x :: y :: ls.eraseIdx j).Perm (y :: ls)
    exact (List.Perm.swap y x _).trans ((erase_perm ls j x h').cons y)
theorem sorted_head {x : Int} {l cs : List Int} (s : Sorted (x :: l)) (p : (x :: l).Perm cs) : mn cs = x :=
  mn_eq (p.subset List.mem_cons_self) fun y hy => by
    rcases List.mem_cons.mp (p.symm.subset hy) with rfl | h
    · exact Int.le_refl _
    · exact (List.pairwise_cons.mp s).1 y h
/-- one card, by the sorted columns -/
theorem put_sorted {r : Bool} {st : List (Nat × Int) × List Int} {x h : Int} {l l' : List Int} (s : Sorted (x :: l)) (p : (x :: l).Perm st.2) (q : l'.Perm ((x + h) :: l)) : l'.Perm (put r st h).2 := by
  have hne : st.2 ≠ [] := fun e => by rw [e] at p; exact absurd p.length_eq (by simp)
  have em := sorted_head s p
  have g := low_get (r := r) hne
  show l'.Perm (st.2.set (low r st.2) (mn st.2 + h))
  rw [em] at g ⊢
  refine q.trans ((List.Perm.cons _ ?_).trans (set_perm _ _ _ (low_lt hne)).symm)
  exact List.Perm.cons_inv (p.trans (erase_perm _ _ _ g).symm)
/-- a height put back at its place -/
theorem sorted_ins {h : Int} {l : List Int} {k : Nat} (s : Sorted l) (hlt : ∀ j z, j < k → l[j]? = some z → z < h) (hge : ∀ z, l[k]? = some z → h ≤ z) : Sorted (l.take k ++ [h] ++ l.drop k) := by
  have s1 : Sorted (l.take k) := s.sublist (List.take_sublist ..)
  have s2 : Sorted (l.drop k) := s.sublist (List.drop_sublist ..)
  have lo : ∀ z ∈ l.take k, z < h := fun z hz => by
    obtain ⟨j, hj, e⟩ := List.getElem_of_mem hz
    have hjk : j < k := by rw [List.length_take] at hj; omega
    refine hlt j z hjk ?_
    have := List.getElem?_eq_getElem hj
    rw [e, List.getElem?_take_of_lt hjk] at this
    exact this
  have hi : ∀ z ∈ l.drop k, h ≤ z := fun z hz => by
    cases e : l.drop k with
    | nil => rw [e] at hz; cases hz
    | cons y ys =>
      have hy : h ≤ y := by
        refine hge y ?_
        have := congrArg (·[0]?) e
        simpa [List.getElem?_drop] using this
      rw [e] at hz s2
      rcases List.mem_cons.mp hz with rfl | hz
      · exact hy
      · exact Int.le_trans hy ((List.pairwise_cons.mp s2).1 z hz)
  refine List.pairwise_append.mpr ⟨List.pairwise_append.mpr ⟨s1, List.pairwise_singleton _ _, fun a ha b hb => ?_⟩, s2, fun a ha b hb => ?_⟩
  · rw [List.mem_singleton.mp hb]
    exact Int.le_of_lt (lo a ha)
  · rcases List.mem_append.mp ha with ha | ha
    · exact Int.le_trans (Int.le_of_lt (lo a ha)) (hi b hb)
    · rw [List.mem_singleton.mp ha]; exact hi b hb
theorem ins_perm (l : List Int) (k : Nat) (h : Int) : (l.take k ++ [h] ++ l.drop k).Perm (h :: l) := by
  have e : (l.take k ++ [h] ++ l.drop k).Perm (h :: (l.take k ++ l.drop k)) := by
    rw [List.append_assoc]
    exact List.perm_middle
  rwa [List.take_append_drop] at e
theorem sorted_uniq : ∀ {a b : List Int}, Sorted a → Sorted b → a.Perm b → a = b
  | [], b, _, _, p => (List.Perm.nil_eq p)
  | x :: a, [], _, _, p => absurd p.length_eq (by simp)
  | x :: a, y :: b, sa, sb, p => by
    have e : y = x := by
      have h1 := sorted_head sa p
      have h2 := sorted_head sb p.symm
      have m1 := (mn_spec (cs := y :: b) (by simp))
      have m2 := (mn_spec (cs := x :: a) (by simp))
      have e1 : mn (x :: a) = mn (y :: b) := mn_eq (p.symm.subset m1.1) fun z hz => m1.2 z (p.subset hz)
      exact h2.symm.trans (e1.trans h1)
    subst e
    rw [sorted_uniq (List.pairwise_cons.mp sa).2 (List.pairwise_cons.mp sb).2 (List.Perm.cons_inv p)]
/-- slices -/
theorem cut_from {xs : List Int} {k : Nat} (h : k ≤ xs.length) : cutV (xs.map V.int) (some (k : Int)) none = (xs.drop k).map V.int := by
  unfold cutV
  rw [HT.sIx_nat, HT.sIx_none, List.length_map, Nat.min_eq_left h, ← List.map_drop, ← List.map_take, List.take_of_length_le (by rw [List.length_drop]; omega)]
theorem cut_to {xs : List Int} {k : Nat} (h : k ≤ xs.length) : cutV (xs.map V.int) none (some (k : Int)) = (xs.take k).map V.int := by
  unfold cutV
  rw [HT.sIx_nat, HT.sIx_none, List.length_map, Nat.min_eq_left h, ← List.map_drop, ← List.map_take]
  rfl
theorem cut_mid {xs : List Int} {i k : Nat} (h : k ≤ xs.length) (h2 : i ≤ k) : cutV (xs.map V.int) (some (i : Int)) (some (k : Int)) = ((xs.drop i).take (k - i)).map V.int := by
  unfold cutV
  rw [HT.sIx_nat, HT.sIx_nat, List.length_map, Nat.min_eq_left h, Nat.min_eq_left (by omega), ← List.map_drop, ← List.map_take]
end Lc

namespace Lc
open PySem PySem.Spec PyProof.Rows L2
theorem mn_perm {a b : List Int} (h : a ≠ []) (p : a.Perm b) : mn a = mn b := by
  have m := mn_spec (cs := b) (fun e => h (by rw [e] at p; exact p.eq_nil))
  exact mn_eq (p.symm.subset m.1) fun y hy => m.2 y (p.subset hy)
theorem put_cols (r : Bool) (s : List (Nat × Int) × List Int) (h : Int) (hne : s.2 ≠ []) : ∃ l, (mn s.2 :: l).Perm s.2 ∧ (put r s h).2.Perm ((mn s.2 + h) :: l) :=
  ⟨s.2.eraseIdx (low r s.2), erase_perm _ _ _ (low_get hne), set_perm _ _ _ (low_lt hne)⟩
theorem put_ne {r : Bool} {s : List (Nat × Int) × List Int} {h : Int} (hne : s.2 ≠ []) : (put r s h).2 ≠ [] := fun e => hne (by
  have : (s.2.set (low r s.2) (mn s.2 + h)).length = 0 := by show ((put r s h).2).length = 0; rw [e]; rfl
  rw [List.length_set] at this
  exact List.length_eq_zero_iff.mp this)
/-- the order of the columns, and the side, change no top and no height at the end -/
theorem fold_perm (r r' : Bool) : ∀ (hs : List Int) (s s' : List (Nat × Int) × List Int), s.2 ≠ [] → s.2.Perm s'.2 → s.1.map (·.2) = s'.1.map (·.2) →
    (hs.foldl (put r) s).1.map (·.2) = (hs.foldl (put r') s').1.map (·.2) ∧ (hs.foldl (put r) s).2.Perm (hs.foldl (put r') s').2
  | [], s, s', _, p, e => ⟨e, p⟩
  | h :: hs, s, s', hne, p, e => by
    have hne' : s'.2 ≠ [] := fun z => hne (by rw [z] at p; exact p.eq_nil)
    have em := mn_perm hne p
    obtain ⟨l, p1, p2⟩ := put_cols r s h hne
    obtain ⟨l', p1', p2'⟩ := put_cols r' s' h hne'
    have pl : l.Perm l' := List.Perm.cons_inv (a := mn s.2) (p1.trans (p.trans (by rw [em]; exact p1'.symm)))
    refine fold_perm r r' hs (put r s h) (put r' s' h) (put_ne hne) (p2.trans ((pl.cons _).trans ?_)) ?_
    · rw [em]; exact p2'.symm
    · show (s.1 ++ [(low r s.2, mn s.2)]).map (·.2) = (s'.1 ++ [(low r' s'.2, mn s'.2)]).map (·.2)
      rw [List.map_append, List.map_append, e, em]
      rfl
theorem tops_perm {cs os hs : List Int} (hne : cs ≠ []) (p : os.Perm cs) : tops os hs = tops cs hs :=
  (fold_perm false false hs ([], os) ([], cs) (fun e => hne (by have e' : os = [] := e; rw [e'] at p; exact p.nil_eq.symm)) p rfl).1
theorem ends_perm {cs os hs : List Int} (hne : cs ≠ []) (p : os.Perm cs) : (ends os hs).Perm (ends cs hs) :=
  (fold_perm false false hs ([], os) ([], cs) (fun e => hne (by have e' : os = [] := e; rw [e'] at p; exact p.nil_eq.symm)) p rfl).2
/-- tops never descend -/
theorem fold_sorted (r : Bool) : ∀ (hs : List Int) (s : List (Nat × Int) × List Int), s.2 ≠ [] → (∀ h ∈ hs, 0 ≤ h) → Sorted (s.1.map (·.2)) → (∀ t ∈ s.1.map (·.2), t ≤ mn s.2) → Sorted ((hs.foldl (put r) s).1.map (·.2))
  | [], s, _, _, so, _ => so
  | h :: hs, s, hne, hp, so, le => by
    obtain ⟨l, p1, p2⟩ := put_cols r s h hne
    have h0 := hp h List.mem_cons_self
    have m0 := mn_spec hne
    have m1 := mn_spec (put_ne (r := r) (h := h) hne)
    have up : mn s.2 ≤ mn (put r s h).2 := by
      rcases List.mem_cons.mp (p2.subset m1.1) with e | e
      · rw [e]; omega
      · exact m0.2 _ (p1.subset (List.mem_cons_of_mem _ e))
    have e1 : (put r s h).1.map (·.2) = s.1.map (·.2) ++ [mn s.2] := by
      show (s.1 ++ [(low r s.2, mn s.2)]).map (·.2) = _
      rw [List.map_append]; rfl
    refine fold_sorted r hs (put r s h) (put_ne hne) (fun x hx => hp x (List.mem_cons_of_mem _ hx)) ?_ ?_
    · rw [e1]
      refine List.pairwise_append.mpr ⟨so, List.pairwise_singleton _ _, fun a ha b hb => ?_⟩
      rw [List.mem_singleton.mp hb]
      exact le a ha
    · rw [e1]
      intro t ht
      rcases List.mem_append.mp ht with ht | ht
      · exact Int.le_trans (le t ht) up
      · rw [List.mem_singleton.mp ht]; exact up
theorem tops_sorted {cs hs : List Int} (hne : cs ≠ []) (hp : ∀ h ∈ hs, 0 ≤ h) : Sorted (tops cs hs) :=
  fold_sorted false hs ([], cs) hne hp List.Pairwise.nil fun t ht => by cases ht
/-- how high the columns, the tops, get -/
theorem fold_high (r : Bool) (B : Int) : ∀ (hs : List Int) (s : List (Nat × Int) × List Int) (M : Int), s.2 ≠ [] → (∀ h ∈ hs, 0 ≤ h ∧ h ≤ B) → (∀ c ∈ s.2, 0 ≤ c ∧ c ≤ M) → (∀ t ∈ s.1.map (·.2), 0 ≤ t ∧ t ≤ M) → 0 ≤ B →
    (∀ c ∈ (hs.foldl (put r) s).2, 0 ≤ c ∧ c ≤ M + hs.length * B) ∧ ∀ t ∈ (hs.foldl (put r) s).1.map (·.2), 0 ≤ t ∧ t ≤ M + hs.length * B
  | [], s, M, _, _, hc, ht, hB => ⟨fun c h => by have := hc c h; simp; omega, fun t h => by have := ht t h; simp; omega⟩
  | h :: hs, s, M, hne, hp, hc, ht, hB => by
    obtain ⟨l, p1, p2⟩ := put_cols r s h hne
    have h0 := hp h List.mem_cons_self
    have m0 := hc _ (mn_spec hne).1
    have q := fold_high r B hs (put r s h) (M + B) (put_ne hne) (fun x hx => hp x (List.mem_cons_of_mem _ hx)) (fun c hcm => ?_) (fun t htm => ?_) hB
    · have e : M + ((h :: hs).length : Nat) * B = M + B + (hs.length : Nat) * B := by
        rw [List.length_cons]
        have : (((hs.length + 1 : Nat)) : Int) * B = (hs.length : Int) * B + B := by
          rw [Int.natCast_add, Int.add_mul]; simp
        rw [this]; omega
      rw [e]
      exact q
    · rcases List.mem_cons.mp (p2.subset hcm) with e | e
      · rw [e]; omega
      · have := hc c (p1.subset (List.mem_cons_of_mem _ e)); omega
    · have e1 : (put r s h).1.map (·.2) = s.1.map (·.2) ++ [mn s.2] := by
        show (s.1 ++ [(low r s.2, mn s.2)]).map (·.2) = _
        rw [List.map_append]; rfl
      rw [e1] at htm
      rcases List.mem_append.mp htm with htm | htm
      · have := ht t htm; omega
      · rw [List.mem_singleton.mp htm]; omega
theorem nat_pow_big {n : Int} (h0 : 0 ≤ n) (h1 : n ≤ 1000000000000000000000000000000000) : n.natAbs < 10 ^ 90 := by
  have e : (10 : Nat) ^ 40 = 10000000000000000000000000000000000000000 := by decide +kernel
  have h3 : n.natAbs < 10 ^ 40 := by rw [e]; omega
  exact Nat.lt_of_lt_of_le h3 (Nat.pow_le_pow_right (by decide) (by decide))
theorem play_high {r : Bool} {cs hs : List Int} (hne : cs ≠ []) (hc : ∀ c ∈ cs, 0 ≤ c ∧ c ≤ 1000000000000000000000000000000) (hh : ∀ h ∈ hs, 1 ≤ h ∧ h ≤ 1000000000000000000000000000000) (hl : hs.length ≤ 200) :
    (∀ c ∈ (play r cs hs).2, c.natAbs < 10 ^ 90) ∧ ∀ t ∈ (play r cs hs).1.map (·.2), t.natAbs < 10 ^ 90 := by
  have q := fold_high r 1000000000000000000000000000000 hs ([], cs) 1000000000000000000000000000000 hne (fun h hm => by have := hh h hm; omega) hc (fun t ht => by cases ht) (by decide)
  have hb : 1000000000000000000000000000000 + (hs.length : Int) * 1000000000000000000000000000000 ≤ 1000000000000000000000000000000000 := by omega
  exact ⟨fun c h => by have := q.1 c h; exact nat_pow_big this.1 (Int.le_trans this.2 hb), fun t h => by have := q.2 t h; exact nat_pow_big this.1 (Int.le_trans this.2 hb)⟩
end Lc

namespace Lc
open PySem PySem.Spec PyProof.Rows L2
/-- a comprehension over enumerate of a list -/
theorem lc_enum {K : PySem.W.Frag} {a D : Addr} {xs : List V} {g : TG} {tt : TT} {te : TE} {vs : List Nat} {σ : L2.St} {H0 : Hp} {Qd : Hp → Prop}
    (Pv : Nat → Hp → Prop) (h0 : Pv 0 (upd H0 D (.lst []))) (hl : ∀ i H, i ≤ xs.length → Pv i H → SqL K H a xs)
    (hs : ∀ i x H T, xs[i]? = some x → Pv i H → H T = none → g (.ref T) (wipe σ vs) (upd H T (.tup [.int (i : Nat), x])) fun σ2 H2 =>
      wipe σ2 vs = wipe σ vs ∧ tt σ2 H2 fun b H3 => if b = true then te σ2 H3 fun y H4 => ∃ acc, H4 D = some (.lst acc) ∧ acc.length < sizeLine ∧ Pv (i + 1) (upd H4 D (.lst (acc ++ [y]))) else Pv (i + 1) H3)
    (hd : ∀ H, Pv xs.length H → Qd H) :
    ∃ W : Nat → Nat → Hp → Prop, (∃ m, W 0 m (upd H0 D (.lst []))) ∧ ∀ i m H, W i m H →
      (((Ite K a).stop i H ∧ Qd H) ∨ ((Ite K a).go i H ∧ ∃ Nx : Hp → Prop, (∀ H', Nx H' → ∃ m', m' < m ∧ W (i + 1) m' H') ∧
        ∀ x H', (Ite K a).yld i H x H' → g x (wipe σ vs) H' fun σ2 H2 => wipe σ2 vs = wipe σ vs ∧ tt σ2 H2 fun b H3 =>
          if b = true then te σ2 H3 fun y H4 => ∃ acc, H4 D = some (.lst acc) ∧ acc.length < sizeLine ∧ Nx (upd H4 D (.lst (acc ++ [y]))) else Nx H3)) := by
  refine ⟨fun i m H => m + i = xs.length ∧ Pv i H, ⟨xs.length, rfl, h0⟩, fun i m H hW => ?_⟩
  obtain ⟨em, p⟩ := hW
  have q := hl i H (by omega) p
  by_cases h : i < xs.length
  · refine .inr ⟨⟨xs, xs[i], q, List.getElem?_eq_getElem h⟩, Pv (i + 1), fun H' p' => ⟨m - 1, by omega, by omega, p'⟩, fun v H' y => ?_⟩
    obtain ⟨T, x, e1, nT, e2, hx⟩ := y
    subst e1
    subst e2
    exact hs i x H T (hx xs q) p nT
  · have e : i = xs.length := by omega
    subst e
    exact .inl ⟨⟨xs, q, Nat.le_refl _⟩, hd H p⟩
/-- min of a list of pairs of ints that an int of each pair orders -/
def PairAt (H : Hp) (v : V) (p : Int × Int) : Prop := ∃ q, v = .ref q ∧ H q = some (.tup [.int p.1, .int p.2])
def rMinP (K : PySem.W.Frag) : List V → Hp → VK → Prop := fun vs H Q => ∃ (a : Addr) (items : List V) (ps : List (Int × Int)) (f : Int × Int → Int), vs = [V.ref a] ∧ SqL K H a items ∧ items.length = ps.length ∧ 0 < ps.length ∧
  (∀ (i : Nat) (v : V) (p : Int × Int), items[i]? = some v → ps[i]? = some p → PairAt H v p) ∧
  (∀ p p', p ∈ ps → p' ∈ ps → HT.lexLt [p.1, p.2] [p'.1, p'.2] = decide (f p < f p')) ∧
  ∀ (i : Nat) (q : Addr) (p : Int × Int), items[i]? = some (.ref q) → ps[i]? = some p → H q = some (.tup [.int p.1, .int p.2]) → (∀ p' ∈ ps, f p ≤ f p') → Q (.ref q) H
theorem cr_minP {X : Cx} (hc : X.calm = true) (hu : X.A.units + 64 < cLine) : CallR X (.builtin "min") (rMinP X.K) := by
  intro pins s σ H vs us Q I r h
  obtain ⟨a, items, ps, f, rfl, hs, hlen, hpos, hp, hf, q⟩ := h
  obtain ⟨its, rv, pl, _⟩ := I.list hs
  obtain ⟨u, rfl, ru⟩ := vals1 r
  obtain rfl : u = Value.ref a := ru
  have hl := pl.isList
  have at_ : ∀ (i : Nat) (v : Value), its.toArray[i]? = some v → ∃ q p, v = .ref q ∧ ps[i]? = some p ∧ H q = some (.tup [.int p.1, .int p.2]) := fun i v e => by
    have e' : its[i]? = some v := by simpa using e
    have hi : i < items.length := by rw [rv.length]; exact (List.getElem?_eq_some_iff.mp e').1
    obtain ⟨u, hu', ru⟩ := rv.get (List.getElem?_eq_getElem hi)
    rw [e'] at hu'
    cases hu'
    obtain ⟨q, eq, hq⟩ := hp i _ _ (List.getElem?_eq_getElem hi) (List.getElem?_eq_getElem (by omega))
    rw [eq] at ru
    exact ⟨q, _, ru, List.getElem?_eq_getElem (by omega), hq⟩
  have hsz : its.toArray.size = ps.length := by rw [List.size_toArray, ← rv.length, hlen]
  refine PySem.call_min_walkH (iter_any hl fun s₂ e2 st hne => ?_)
  subst e2
  have W := (Walks.list (prog := X.prog) (w := X.w) (A := X.A.in1) (I.ok.hd hc) s.heap.objs.size a hne its.toArray).toS
  refine ⟨_, _, _, _, _, _, _, s.heap, fun i j => decide (f (ps.getD i (0, 0)) < f (ps.getD j (0, 0))), rfl, W, st, ?_, by rw [hsz]; exact hpos, ?_, ?_, ?_, fun v s' hP hm => ?_⟩
  · intro b hb
    simp only [List.mem_cons, List.not_mem_nil, or_false] at hb
    rcases hb with rfl | rfl
    · simp [Heap.push]
    · exact Nat.lt_of_lt_of_le (by obtain ⟨_, e, _⟩ := hl; exact Heap.lt_size e) (by simp [Heap.push])
  · intro b o e hb
    rw [List.mem_singleton.mp hb] at e
    exact Nat.lt_irrefl _ (Heap.lt_size e)
  · intro b o e
    exact Heap.get?_push_of_some _ e
  · intro i j vi vj s1 Q1 E1 hk ei ej hq
    obtain ⟨q1, p1, rfl, ep1, h1⟩ := at_ i vi ei
    obtain ⟨q2, p2, rfl, ep2, h2⟩ := at_ j vj ej
    obtain ⟨_, t1, r1, o1, g1, c1⟩ := (show ObjOk X.prog X.w H s.heap q1 (.tup _) from I.hok q1 _ h1)
    obtain ⟨_, t2, r2, o2, g2, c2⟩ := (show ObjOk X.prog X.w H s.heap q2 (.tup _) from I.hok q2 _ h2)
    have i1 : IntsAre t1.toArray.toList [p1.1, p1.2] := intsAre_of r1
    have i2 : IntsAre t2.toArray.toList [p2.1, p2.2] := intsAre_of r2
    have m1 : p1 ∈ ps := List.mem_of_getElem? ep1
    have m2 : p2 ∈ ps := List.mem_of_getElem? ep2
    show wpAny _ _ (compareOp .Lt (.ref q1) (.ref q2)) Q1 E1 s1
    refine HT.lt_tupInts ⟨o1, hk _ _ g1, c1⟩ ⟨o2, hk _ _ g2, c2⟩ i1 i2 (by show X.A.units + 1 < cLine; omega) ?_
    rw [hf p1 p2 m1 m2]
    have hq' : Q1 (Value.bool (decide (f (ps.getD i (0, 0)) < f (ps.getD j (0, 0))))) s1 := hq
    rw [List.getD_eq_getElem?_getD, List.getD_eq_getElem?_getD, ep1, ep2] at hq'
    exact hq'
  · obtain ⟨b1, b2⟩ := argBest_lt (fun i => f (ps.getD i (0, 0))) (its.toArray.size - 1)
    have hP' : its.toArray[argBest (fun i j => decide (f (ps.getD i (0, 0)) < f (ps.getD j (0, 0)))) (its.toArray.size - 1)]? = some v := hP
    generalize argBest (fun i j => decide (f (ps.getD i (0, 0)) < f (ps.getD j (0, 0)))) (its.toArray.size - 1) = k at hP' b1 b2
    obtain ⟨q1, p1, rfl, ep1, h1⟩ := at_ k v hP'
    have hit : items[k]? = some (.ref q1) := by
      have hk : k < items.length := by have := (List.getElem?_eq_some_iff.mp ep1).1; omega
      obtain ⟨q2, e2, h2⟩ := hp k _ _ (List.getElem?_eq_getElem hk) ep1
      obtain ⟨u, hu', ru⟩ := rv.get (List.getElem?_eq_getElem hk)
      have hP2 : its[k]? = some (Value.ref q1) := by simpa using hP'
      rw [hP2] at hu'
      cases hu'
      rw [e2] at ru
      have e3 : Value.ref q1 = Value.ref q2 := ru
      cases e3
      rw [List.getElem?_eq_getElem hk, e2]
    refine ⟨.ref q1, H, ?_, rfl, q k q1 p1 hit ep1 h1 fun p' hp' => ?_⟩
    · obtain ⟨h', g', d', t', o'⟩ := s'
      obtain ⟨m1, m2, m3, m4, m5⟩ := hm
      have e2 : g' = s.gens := m2
      have e3 : d' = s.drawn := m3
      have e4 : o' = s.os := m4
      subst e2 e3 e4
      refine I.kept fun b o e => m1 b o (fun hb => ?_) (Heap.get?_push_of_some _ e)
      rw [List.mem_singleton.mp hb] at e
      exact Nat.lt_irrefl _ (Heap.lt_size e)
    · obtain ⟨j, hj, e5⟩ := List.getElem_of_mem hp'
      have := b2 j (by omega)
      rw [List.getD_eq_getElem?_getD, List.getD_eq_getElem?_getD, ep1, List.getElem?_eq_getElem hj, e5] at this
      exact this
end Lc

namespace Lc
open PySem PySem.Spec PyProof.Rows L2
theorem low_char {r : Bool} {cs : List Int} {i : Nat} (h : cs[i]? = some (mn cs)) (h2 : ∀ j : Nat, cs[j]? = some (mn cs) → if r = true then j ≤ i else i ≤ j) : i = low r cs := by
  have hi : i < cs.length := (List.getElem?_eq_some_iff.mp h).1
  have hne : cs ≠ [] := fun e => by rw [e] at hi; simp at hi
  have g := low_get (r := r) hne
  have q := h2 _ g
  cases r with
  | false =>
    have q' : i ≤ low false cs := q
    by_cases e : i = low false cs
    · exact e
    · have lt : i < ix (mn cs) cs := by
        have : low false cs = ix (mn cs) cs := rfl
        omega
      exact absurd rfl (ix_first lt h)
  | true =>
    have q' : low true cs ≤ i := q
    by_cases e : i = low true cs
    · exact e
    · have el : low true cs = cs.length - 1 - ix (mn cs) cs.reverse := rfl
      have lt : cs.length - 1 - i < ix (mn cs) cs.reverse := by
        have := (List.getElem?_eq_some_iff.mp (ix_get (cs := cs.reverse) (List.mem_reverse.mpr (mn_spec hne).1))).1
        rw [List.length_reverse] at this
        omega
      have h3 : cs.reverse[cs.length - 1 - i]? = some (mn cs) := by
        rw [List.getElem?_reverse (by omega), show cs.length - 1 - (cs.length - 1 - i) = i by omega]
        exact h
      exact absurd rfl (ix_first lt h3)
/-- the pairs (height, side * place) of the columns -/
def prs (sd : Int) (cs : List Int) : List (Int × Int) := (List.range cs.length).map fun j => (cs.getD j 0, sd * (j : Int))
theorem prs_len (sd : Int) (cs : List Int) : (prs sd cs).length = cs.length := by unfold prs; rw [List.length_map, List.length_range]
theorem prs_get {sd : Int} {cs : List Int} {i : Nat} {p : Int × Int} (h : (prs sd cs)[i]? = some p) : ∃ c, cs[i]? = some c ∧ p = (c, sd * (i : Int)) := by
  have hi : i < cs.length := by rw [← prs_len sd cs]; exact (List.getElem?_eq_some_iff.mp h).1
  unfold prs at h
  rw [List.getElem?_map, List.getElem?_range hi] at h
  refine ⟨cs[i], List.getElem?_eq_getElem hi, ?_⟩
  have := Option.some.inj h
  rw [← this]
  show (cs.getD i 0, _) = _
  rw [List.getD_eq_getElem?_getD, List.getElem?_eq_getElem hi]
  rfl
theorem prs_at {sd : Int} {cs : List Int} {i : Nat} {c : Int} (h : cs[i]? = some c) : (prs sd cs)[i]? = some (c, sd * (i : Int)) := by
  have hi : i < cs.length := (List.getElem?_eq_some_iff.mp h).1
  unfold prs
  rw [List.getElem?_map, List.getElem?_range hi]
  show some (cs.getD i 0, _) = _
  rw [List.getD_eq_getElem?_getD, h]
  rfl
def ordP (p : Int × Int) : Int := p.1 * 64 + p.2
theorem side_abs {sd : Int} {j : Nat} (hs : sd = 1 ∨ sd = -1) (hj : j < 31) : -31 < sd * (j : Int) ∧ sd * (j : Int) < 31 := by
  rcases hs with rfl | rfl <;> omega
theorem lex_ord {a b c d : Int} (hb : -31 < b ∧ b < 31) (hd : -31 < d ∧ d < 31) : HT.lexLt [a, b] [c, d] = decide (ordP (a, b) < ordP (c, d)) := by
  show (if a = c then (if b = d then false else decide (b < d)) else decide (a < c)) = decide (a * 64 + b < c * 64 + d)
  by_cases h : a = c
  · rw [if_pos h]
    subst h
    by_cases h2 : b = d
    · rw [if_pos h2]; subst h2; exact (decide_eq_false (by omega)).symm
    · rw [if_neg h2]
      by_cases h3 : b < d
      · rw [decide_eq_true h3, decide_eq_true (by omega)]
      · rw [decide_eq_false h3, decide_eq_false (by omega)]
  · rw [if_neg h]
    by_cases h3 : a < c
    · rw [decide_eq_true h3, decide_eq_true (by omega)]
    · rw [decide_eq_false h3, decide_eq_false (by omega)]
theorem prs_ord {sd : Int} {cs : List Int} (hs : sd = 1 ∨ sd = -1) (hl : cs.length ≤ 30) {p p' : Int × Int} (h : p ∈ prs sd cs) (h' : p' ∈ prs sd cs) : HT.lexLt [p.1, p.2] [p'.1, p'.2] = decide (ordP p < ordP p') := by
  have rd : ∀ p ∈ prs sd cs, -31 < p.2 ∧ p.2 < 31 := fun p hp => by
    obtain ⟨j, hj, e⟩ := List.mem_map.mp hp
    rw [← e]
    exact side_abs hs (by have := List.mem_range.mp hj; omega)
  exact lex_ord (rd p h) (rd p' h')
/-- the least pair is that of the lowest column -/
theorem prs_low {sd : Int} {r : Bool} {cs : List Int} (hs : sd = 1 ∧ r = false ∨ sd = -1 ∧ r = true) (hl : cs.length ≤ 30) {i : Nat} {p : Int × Int} (h : (prs sd cs)[i]? = some p) (hm : ∀ p' ∈ prs sd cs, ordP p ≤ ordP p') :
    p = (mn cs, sd * ((low r cs : Nat) : Int)) := by
  obtain ⟨c, ec, rfl⟩ := prs_get h
  have hi : i < cs.length := (List.getElem?_eq_some_iff.mp ec).1
  have hs' : sd = 1 ∨ sd = -1 := hs.elim (fun h => .inl h.1) (fun h => .inr h.1)
  have ai := side_abs (j := i) hs' (by omega)
  have le : ∀ y ∈ cs, c ≤ y := fun y hy => by
    obtain ⟨j, hj, e⟩ := List.getElem_of_mem hy
    have aj := side_abs (j := j) hs' (by omega)
    have m := hm _ (List.mem_of_getElem? (prs_at (sd := sd) (List.getElem?_eq_getElem hj)))
    have m' : c * 64 + sd * (i : Int) ≤ cs[j] * 64 + sd * (j : Int) := m
    rw [← e]
    omega
  have em : mn cs = c := mn_eq (List.mem_of_getElem? ec) le
  have e : i = low r cs := by
    refine low_char (by rw [em]; exact ec) fun j hj => ?_
    rw [em] at hj
    have m := hm _ (List.mem_of_getElem? (prs_at (sd := sd) hj))
    have m' : c * 64 + sd * (i : Int) ≤ c * 64 + sd * (j : Int) := m
    rcases hs with ⟨rfl, rfl⟩ | ⟨rfl, rfl⟩
    · show i ≤ j; omega
    · show j ≤ i; omega
  rw [em, ← e]
theorem side_low {sd : Int} {r : Bool} {n : Nat} (hs : sd = 1 ∧ r = false ∨ sd = -1 ∧ r = true) : sd * (sd * (n : Int)) = (n : Int) := by
  rcases hs with ⟨rfl, _⟩ | ⟨rfl, _⟩ <;> omega
theorem eraseV : ∀ (ls : List Int) (j : Nat), (ls.map V.int).eraseIdx j = (ls.eraseIdx j).map V.int
  | [], _ => rfl
  | _ :: _, 0 => rfl
  | x :: ls, j + 1 => by
    show V.int x :: (ls.map V.int).eraseIdx j = V.int x :: (ls.eraseIdx j).map V.int
    rw [eraseV ls j]
end Lc

namespace Lc
open PySem PySem.Spec PyProof.Rows L2
/-! ### xs[a:c] = ys, the ends written or not -/
section
variable {prog : Program} {w : World} {A : Around} {E : Value → Shared → Prop} {s : Shared}
theorem setItem_cut {l b sl : Addr} {items new : Array Value} {n n2 : Nat} {vl vu : Value} {lo hi : Option Int} {a c : Nat} {Q : Unit → Shared → Prop}
    (e : s.heap.get? l = some { cls := .type "list", data := .seq items n })
    (e2 : s.heap.get? b = some { cls := .type "list", data := .seq new n2 }) (ne : l ≠ b) (hs : s.heap.IsSliceOf sl vl vu .none)
    (pl : IsPart vl lo) (pu : IsPart vu hi) (hbd : sliceBounds lo hi none items.size = ((a : Int), (c : Int), 1)) (hac : a ≤ c) (hc : c ≤ items.size)
    (hsz : items.size + new.size ≤ sizeLine)
    (h : Q () { s with heap := s.heap.update l (Obj.mapSeq fun xs => xs.extract 0 a ++ new ++ xs.extract c xs.size) }) :
    wpAny (model prog w) A (setItem (.ref l) (.ref sl) (.ref b)) Q E s := by
  have hl : s.heap.IsList l items := PySem.IsL.isList e
  have hb : s.heap.IsList b new := PySem.IsL.isList e2
  obtain ⟨os, hos, hcs, hds⟩ := id hs
  have hTs : s.TypeIs (.ref sl) "slice" := ⟨os, hos, hcs⟩
  have n1 : ¬ ((rawPart none == rawInt 0) = true) := Bool.false_ne_true
  have n2' : Builtin.List.listSameRef (.ref l) (.ref b) = false := by unfold Builtin.List.listSameRef; exact beq_eq_false_iff_ne.mpr ne
  have n3 : (max (a : Int) (c : Int)).toNat = c := by omega
  have n4 : ((fun xs : Array Value => xs.extract 0 a ++ new ++ xs.extract c xs.size) items).size ≤ sizeLine + 1 := by
    simp only [Array.size_append, Array.size_extract]; omega
  unfold setItem
  try with_reducible refine wpAny_holding ?_
  first | refine wpAny_bind (wpAny_pure ?_) | skip
  refine wpAny_bind (wpAny_sequenceKey hl.typeIs (by decide) (wpAny_bind (wpAny_callSpecial?_slot (name := Str.ofString "__setitem__") hl.typeIs slot_list_setitem (wpAny_call_entry slot_list_setitem hl.typeIs entry_list_setitem ?_ (args_list_setitem _ _ _)))))
  show wpAny _ _ (Builtin.List.listSubscript? (.ref sl) >>= _) _ _ s
  refine wpAny_bind ?_
  unfold Builtin.List.listSubscript?
  refine wpAny_bind (wpAny_specialOf hTs slice_no_index ?_)
  simp only [Option.isNone_none, if_true]
  refine wpAny_pure ?_
  show wpAny _ _ (typeOf (.ref sl) >>= _) _ _ s
  refine wpAny_bind (wpAny_typeOf hTs ?_)
  rw [if_neg (by decide)]
  rw [listSliceParts_eq]
  refine wpAny_bind (wpAny_bind (wpAny_field hos hds (x := .none) rfl (wpAny_bind (wpAny_listPart .none ?_)))); rw [if_neg n1]
  refine wpAny_bind (wpAny_field hos hds (x := vl) rfl (wpAny_bind (wpAny_listPart pl (wpAny_bind (wpAny_field hos hds (x := vu) rfl (wpAny_bind (wpAny_listPart pu (wpAny_pure ?_))))))))
  simp only [n2', Bool.false_eq_true, if_false]
  refine wpAny_bind (m := Builtin.List.listAllItems (.ref b) _) ?_
  unfold Builtin.List.listAllItems
  refine wpAny_bind (wpAny_typeOf hb.typeIs ?_)
  simp only [beq_self_eq_true, Bool.true_or, if_true]
  unfold Builtin.List.listItems
  refine wpAny_bind (wpAny_seqItems e2 rfl (wpAny_pure (wpAny_bind (wpAny_bind (wpAny_seqItems e rfl (wpAny_pure ?_))))))
  refine wpAny_bind (wpAny_of_eq ((sliceIndices_raw lo hi none items.size (by simp)).trans (congrArg pure hbd)) ?_)
  show wpAny _ _ (if ((1 : Int) == 1) = true then _ else _) _ _ s
  rw [if_pos (by decide)]
  refine wpAny_bind (wpAny_rule ?_)
  simp only [notLongL hsz, Bool.false_eq_true, if_false]
  first | refine wpAny_bind (wpAny_pure ?_) | skip
  show wpAny _ _ (updateSeq l (fun xs => xs.extract 0 ((a : Int)).toNat ++ new ++ xs.extract (max (a : Int) (c : Int)).toNat xs.size) >>= _) _ _ s
  rw [n3, Int.toNat_natCast]
  refine wpAny_bind (wpAny_updateSeq (hz := Nat.le_trans (Nat.le_add_right _ _) hsz) (_hz' := n4) e rfl (wpAny_bind (wpAny_letGo ?_)))
  first
    | exact wpAny_bind (wpAny_pure (wpAny_pure ⟨.none, rfl, wpAny_pure h⟩))
    | exact wpAny_pure ⟨.none, rfl, wpAny_pure h⟩
end
section
variable {X : Cx}
def gCut (to : TE) (tl th : TO) : TG := fun v σ H Q => to σ H fun x H1 => tl σ H1 fun lo H2 => th σ H2 fun hi H3 => ∃ (p b : Addr) (xs ys : List V) (a c : Nat), x = .ref p ∧ v = .ref b ∧ H3 p = some (.lst xs) ∧ H3 b = some (.lst ys) ∧ p ≠ b ∧
  sliceBounds lo hi none xs.length = ((a : Int), (c : Int), 1) ∧ a ≤ c ∧ c ≤ xs.length ∧ xs.length + ys.length ≤ sizeLine ∧ Q σ (upd H3 p (.lst (xs.take a ++ ys ++ xs.drop c)))
theorem pg_cut {o : Expr} {lo hi : Option Expr} {to : TE} {tl th : TO} {p2 pos : Pos} (ho : PE X o to) (hl : PO X lo tl) (hu : PO X hi th)
    (ha : ∀ v, assign (.Subscript o (.Slice lo hi none p2) pos) X.env v = (holding [v] (eval o X.env) >>= fun x => holding [v, x] (eval (.Slice lo hi none p2) X.env) >>= fun y =>
      standAt pos >>= fun _ => holding [v, x, y] (setItem x y v) >>= fun _ => release [y, v, x] []) := by intro _; rfl) : PG X (.Subscript o (.Slice lo hi none p2) pos) (gCut to tl th) := by
  refine ⟨fun pins s σ H v u Q I r h => ?_⟩
  rw [ha]
  refine wpAny_bind (wpAny_holding (thn (ho.run pins s σ H _ I h) fun ov s1 ⟨x, H1, I1, r1, q1⟩ => wpAny_bind (wpAny_holding ?_)))
  refine wpAny_Slice (thn (hl.run pins s1 σ H1 _ I1 q1) fun vl s2 ⟨l, H2, I2, pl, q2⟩ => thn (hu.run pins s2 σ H2 _ I2 q2) fun vu s3 ⟨t, H3, I3, pu, q3⟩ => ?_)
  rw [evalPart_none]
  refine wpAny_pure (wpAny_bind (wpAny_standAt (wpAny_bind (wpAny_holding ?_))))
  obtain ⟨p, b, xs, ys, a, c, rfl, rfl, hp, hb, ne, hbd, hac, hc, hz, q⟩ := q3
  have I4 : Inv X pins σ H3 { s3 with heap := s3.heap.push { cls := .type "slice", data := .fields #[vl, vu, .none] } } :=
    I3.kept (t' := s3.toks) fun b ob q => Heap.get?_push_of_some _ q
  obtain rfl : ov = Value.ref p := r1
  obtain rfl : u = Value.ref b := r
  obtain ⟨z1, its1, m1, r1, l1, g1⟩ := I4.lstM hp
  obtain ⟨z2, its2, m2, r2, l2, g2⟩ := I4.lstM hb
  refine setItem_cut (a := a) (c := c) g1 g2 ne (Heap.IsSliceOf.new ..) pl pu (by rw [List.size_toArray, ← l1]; exact hbd) hac (by rw [List.size_toArray, ← l1]; exact hc) (by rw [List.size_toArray, List.size_toArray, ← l1, ← l2]; exact hz) ?_
  refine wpAny_release ⟨σ, _, I4.lset (its' := its1.take a ++ its2 ++ its1.drop c) (t' := s3.toks) hp g1 (splice_eq its1 its2 a c) (Vals.append (Vals.append (r1.take _) r2) (r1.drop _)) ?_, q⟩
  rw [List.length_append, List.length_append, List.length_take, List.length_drop]
  omega
end
theorem bounds_from {k n : Nat} (h : k ≤ n) : sliceBounds (some (k : Int)) none none n = ((k : Int), (n : Int), 1) := by
  simp only [sliceBounds, Option.getD_none]
  have h1 : ¬ ((k : Int) < 0) := by omega
  simp only [h1, if_false, show (1 : Int) > 0 by decide, if_true]
  congr 1
  omega
theorem bounds_min {k n : Nat} : sliceBounds (some (k : Int)) none none n = (((min k n : Nat) : Int), (n : Int), 1) := by
  simp only [sliceBounds, Option.getD_none]
  have h1 : ¬ ((k : Int) < 0) := by omega
  simp only [h1, if_false, show (1 : Int) > 0 by decide, if_true]
  congr 1
  omega
end Lc

namespace Lc
open PySem PySem.Spec PyProof.Rows L2
/-- the cards among the first n in a column -/
def inCol (ps : List (Nat × Int)) (k n : Nat) : List Nat := (List.range n).filter fun j => decide ((ps.map (·.1))[j]? = some k)
theorem inCol_succ {ps : List (Nat × Int)} {k n : Nat} {p : Nat × Int} (h : ps[n]? = some p) : inCol ps k (n + 1) = if p.1 = k then inCol ps k n ++ [n] else inCol ps k n := by
  unfold inCol
  rw [List.range_succ, List.filter_append]
  have e : (ps.map (·.1))[n]? = some p.1 := by rw [List.getElem?_map, h]; rfl
  by_cases q : p.1 = k
  · rw [if_pos q]
    simp [e, q]
  · rw [if_neg q]
    simp [e, q]
theorem filter_two {α : Type} (p q : α → Bool) (d : ∀ x, p x = true → q x = false) : ∀ l : List α, (l.filter p ++ l.filter q).Perm (l.filter fun x => p x || q x)
  | [] => List.Perm.refl _
  | x :: l => by
    have ih := filter_two p q d l
    cases hp : p x with
    | true =>
      have hq := d x hp
      rw [List.filter_cons_of_pos hp, List.filter_cons_of_neg (by simp [hq]), List.filter_cons_of_pos (by simp [hp])]
      exact ih.cons x
    | false =>
      cases hq : q x with
      | true =>
        rw [List.filter_cons_of_neg (by simp [hp]), List.filter_cons_of_pos hq, List.filter_cons_of_pos (by simp [hq])]
        exact (List.perm_middle).trans (ih.cons x)
      | false =>
        rw [List.filter_cons_of_neg (by simp [hp]), List.filter_cons_of_neg (by simp [hq]), List.filter_cons_of_neg (by simp [hp, hq])]
        exact ih
/-- the columns one behind another -/
def cols (ps : List (Nat × Int)) (n : Nat) : Nat → List Nat
  | 0 => []
  | m + 1 => cols ps n m ++ inCol ps m n
def colB (ps : List (Nat × Int)) (m j : Nat) : Bool := match (ps.map (·.1))[j]? with
  | some c => decide (c < m)
  | none => false
theorem cols_perm0 (ps : List (Nat × Int)) (n : Nat) : ∀ m, (cols ps n m).Perm ((List.range n).filter (colB ps m))
  | 0 => by
    have : ((List.range n).filter (colB ps 0)) = [] := by
      rw [List.filter_eq_nil_iff]
      intro j _
      unfold colB
      cases (ps.map (·.1))[j]? <;> simp
    rw [this]
    exact List.Perm.refl _
  | m + 1 => by
    have ih := cols_perm0 ps n m
    refine (List.Perm.append_right _ ih).trans ?_
    refine (filter_two _ _ (fun j hj => ?_) (List.range n)).trans ?_
    · unfold colB at hj
      cases h : (ps.map (·.1))[j]? with
      | none => rw [h] at hj; cases hj
      | some c =>
        rw [h] at hj
        have : c < m := of_decide_eq_true hj
        simp
        omega
    · refine List.Perm.of_eq (List.filter_congr fun j _ => ?_)
      unfold colB
      cases h : (ps.map (·.1))[j]? with
      | none => simp
      | some c =>
        simp only [Option.some.injEq]
        by_cases h1 : c < m
        · simp [h1, Nat.lt_succ_of_lt h1]
        · by_cases h2 : c = m
          · simp [h2]
          · have : ¬ c < m + 1 := by omega
            simp [h1, h2, this]
theorem cols_len (ps : List (Nat × Int)) (n : Nat) : ∀ m, (cols ps n m).length ≤ n := fun m => by
  rw [(cols_perm0 ps n m).length_eq]
  have := List.length_filter_le (colB ps m) (List.range n)
  rw [List.length_range] at this
  exact this
theorem cols_all {ps : List (Nat × Int)} {m : Nat} (h : ∀ p ∈ ps, p.1 < m) : (cols ps ps.length m).Perm (List.range ps.length) := by
  refine (cols_perm0 ps ps.length m).trans (List.Perm.of_eq ?_)
  rw [List.filter_eq_self]
  intro j hj
  have hj' := List.mem_range.mp hj
  unfold colB
  rw [List.getElem?_map, List.getElem?_eq_getElem hj']
  exact decide_eq_true (h _ (List.getElem_mem hj'))
theorem fold_lt (r : Bool) (n : Nat) : ∀ (hs : List Int) (s : List (Nat × Int) × List Int), s.2 ≠ [] → s.2.length = n → (∀ p ∈ s.1, p.1 < n) → ∀ p ∈ (hs.foldl (put r) s).1, p.1 < n
  | [], s, _, _, h => h
  | x :: hs, s, hne, hl, h => fold_lt r n hs (put r s x) (put_ne hne) (by show (s.2.set _ _).length = n; rw [List.length_set]; exact hl) fun p hp => by
    have hp' : p ∈ s.1 ++ [(low r s.2, mn s.2)] := hp
    rcases List.mem_append.mp hp' with hp' | hp'
    · exact h p hp'
    · rw [List.mem_singleton.mp hp', ← hl]
      exact low_lt hne
theorem play_lt {r : Bool} {cs hs : List Int} (h : cs ≠ []) : ∀ p ∈ (play r cs hs).1, p.1 < cs.length := fold_lt r cs.length hs ([], cs) h rfl fun p h => by cases h
def nat2 (l : List Nat) : List Int := l.map fun j => ((j : Nat) : Int)
theorem nat2_append (a b : List Nat) : nat2 (a ++ b) = nat2 a ++ nat2 b := List.map_append ..
theorem nat2_small {l : List Nat} (h : ∀ j ∈ l, j ≤ 1000) : ∀ n ∈ nat2 l, n.natAbs < 10 ^ 90 := fun n hn => by
  obtain ⟨j, hj, rfl⟩ := List.mem_map.mp hn
  exact nat_pow_big (by omega) (by have := h j hj; omega)
theorem range_sorted (n : Nat) : Sorted (nat2 (List.range n)) := by
  unfold nat2 Sorted
  rw [List.pairwise_map]
  exact (List.pairwise_lt_range (n := n)).imp fun h => by omega
end Lc

namespace Lc
open PySem PySem.Spec PyProof.Rows L2
/-- a comprehension over zip of two lists of one length -/
theorem lc_zip {K : PySem.W.Frag} {a b D : Addr} {xs ys : List V} {g : TG} {tt : TT} {te : TE} {vs : List Nat} {σ : L2.St} {H0 : Hp} {Qd : Hp → Prop}
    (hle : xs.length = ys.length) (Pv : Nat → Hp → Prop) (h0 : Pv 0 (upd H0 D (.lst []))) (hl : ∀ i H, i ≤ xs.length → Pv i H → SqL K H a xs ∧ SqL K H b ys)
    (hs : ∀ i x y H T, xs[i]? = some x → ys[i]? = some y → Pv i H → H T = none → g (.ref T) (wipe σ vs) (upd H T (.tup [x, y])) fun σ2 H2 =>
      wipe σ2 vs = wipe σ vs ∧ tt σ2 H2 fun b H3 => if b = true then te σ2 H3 fun y H4 => ∃ acc, H4 D = some (.lst acc) ∧ acc.length < sizeLine ∧ Pv (i + 1) (upd H4 D (.lst (acc ++ [y]))) else Pv (i + 1) H3)
    (hd : ∀ H, Pv xs.length H → Qd H) :
    ∃ W : Nat → Nat → Hp → Prop, (∃ m, W 0 m (upd H0 D (.lst []))) ∧ ∀ i m H, W i m H →
      (((Itz K a b).stop i H ∧ Qd H) ∨ ((Itz K a b).go i H ∧ ∃ Nx : Hp → Prop, (∀ H', Nx H' → ∃ m', m' < m ∧ W (i + 1) m' H') ∧
        ∀ x H', (Itz K a b).yld i H x H' → g x (wipe σ vs) H' fun σ2 H2 => wipe σ2 vs = wipe σ vs ∧ tt σ2 H2 fun b H3 =>
          if b = true then te σ2 H3 fun y H4 => ∃ acc, H4 D = some (.lst acc) ∧ acc.length < sizeLine ∧ Nx (upd H4 D (.lst (acc ++ [y]))) else Nx H3)) := by
  refine ⟨fun i m H => m + i = xs.length ∧ Pv i H, ⟨xs.length, rfl, h0⟩, fun i m H hW => ?_⟩
  obtain ⟨em, p⟩ := hW
  have q := hl i H (by omega) p
  by_cases h : i < xs.length
  · refine .inr ⟨⟨xs, ys, xs[i], ys[i]'(by omega), q.1, q.2, List.getElem?_eq_getElem h, List.getElem?_eq_getElem (by omega)⟩, Pv (i + 1), fun H' p' => ⟨m - 1, by omega, by omega, p'⟩, fun v H' y => ?_⟩
    obtain ⟨T, x, z, e1, nT, e2, hx, hy⟩ := y
    subst e1
    subst e2
    exact hs i x z H T (hx xs q.1) (hy ys q.2) p nT
  · have e : i = xs.length := by omega
    subst e
    exact .inl ⟨⟨xs, ys, q.1, q.2, .inl (Nat.le_refl _)⟩, hd H p⟩
/-! changed lists -/
def insAt (l : List Int) (i : Nat) (x : Int) : List Int := l.take i ++ [x] ++ l.drop i
def delAt (l : List Int) (i : Nat) : List Int := l.take i ++ l.drop (i + 1)
def grow (a b : List Int) : List Int := (a.zip b).map fun p => p.2 - p.1
theorem insAt_len {l : List Int} {i : Nat} {x : Int} (h : i ≤ l.length) : (insAt l i x).length = l.length + 1 := by
  unfold insAt
  simp only [List.length_append, List.length_take, List.length_drop, List.length_cons, List.length_nil]
  omega
theorem delAt_len {l : List Int} {i : Nat} (h : i < l.length) : (delAt l i).length = l.length - 1 := by
  unfold delAt
  simp only [List.length_append, List.length_take, List.length_drop]
  omega
theorem mem_insAt {l : List Int} {i : Nat} {x y : Int} (h : y ∈ insAt l i x) : y = x ∨ y ∈ l := by
  unfold insAt at h
  rcases List.mem_append.mp h with h | h
  · rcases List.mem_append.mp h with h | h
    · exact .inr (List.mem_of_mem_take h)
    · exact .inl (List.mem_singleton.mp h)
  · exact .inr (List.mem_of_mem_drop h)
theorem mem_delAt {l : List Int} {i : Nat} {y : Int} (h : y ∈ delAt l i) : y ∈ l := by
  unfold delAt at h
  rcases List.mem_append.mp h with h | h
  · exact List.mem_of_mem_take h
  · exact List.mem_of_mem_drop h
theorem grow_len {a b : List Int} (h : a.length = b.length) : (grow a b).length = a.length := by
  unfold grow
  rw [List.length_map, List.length_zip]
  omega
theorem grow_take {a b : List Int} {i : Nat} {x y : Int} (h1 : a[i]? = some x) (h2 : b[i]? = some y) : (grow a b)[i]? = some (y - x) := by
  unfold grow
  rw [List.getElem?_map, (List.getElem?_zip_eq_some (z := (x, y))).mpr ⟨h1, h2⟩]
  rfl
def effIns (cs hs : List Int) (i : Nat) (h : Int) : List Int := grow (tops cs hs) (delAt (tops cs (insAt hs i h)) i)
def effRem (cs hs : List Int) (i : Nat) : List Int := grow (delAt (tops cs hs) i) (tops cs (delAt hs i))
def effMov (cs hs : List Int) (i j : Nat) (x : Int) : List Int := grow (delAt (tops cs hs) i) (delAt (tops cs (insAt (delAt hs i) j x)) j)
def effStr (cs hs : List Int) (i : Nat) (h : Int) : List Int := grow (tops cs hs) (tops cs (insAt (delAt hs i) i h))
def effExc (cs hs : List Int) (i : Nat) (x : Int) : List Int := grow (tops cs hs) (tops cs (insAt (delAt hs i) (i + 1) x))
end Lc

namespace Lc
open PySem PySem.Spec PyProof.Rows L2
/-! the greatest item; max with default= -/
def mx (l : List Int) : Int := - mn (l.map fun x => - x)
theorem mx_spec {l : List Int} (h : l ≠ []) : mx l ∈ l ∧ ∀ y ∈ l, y ≤ mx l := by
  have s := mn_spec (cs := l.map fun x => - x) (fun e => h (by simpa using e))
  obtain ⟨x, hx, e⟩ := List.mem_map.mp s.1
  refine ⟨?_, fun y hy => ?_⟩
  · have : mx l = x := by unfold mx; omega
    rw [this]; exact hx
  · have := s.2 (-y) (List.mem_map.mpr ⟨y, hy, rfl⟩)
    unfold mx; omega
theorem mx_eq {l : List Int} {m : Int} (h : m ∈ l) (h2 : ∀ y ∈ l, y ≤ m) : mx l = m := by
  have hn : l ≠ [] := fun e => by rw [e] at h; cases h
  have s := mx_spec hn
  exact Int.le_antisymm (h2 _ s.1) (s.2 m h)
theorem mx_in {cs : List Int} {lo hi : Int} (hne : cs ≠ []) (h : ∀ n ∈ cs, lo ≤ n ∧ n ≤ hi) : lo ≤ mx cs ∧ mx cs ≤ hi := h _ (mx_spec hne).1
theorem mn_in {cs : List Int} {lo hi : Int} (hne : cs ≠ []) (h : ∀ n ∈ cs, lo ≤ n ∧ n ≤ hi) : lo ≤ mn cs ∧ mn cs ≤ hi := h _ (mn_spec hne).1
def mxD (l : List Int) (d : Int) : Int := if l = [] then d else mx l
def rMaxKD (K : PySem.W.Frag) : List V → List V → Hp → VK → Prop := fun vs zs H Q => ∃ (a : Addr) (ns : List Int) (d : Int), vs = [V.ref a] ∧ zs = [V.int d] ∧ SqL K H a (ns.map V.int) ∧ Q (.int (mxD ns d)) H
theorem cr_maxKD {X : Cx} (hc : X.calm = true) : CallRK X (.builtin "max") [Str.ofString "default"] (rMaxKD X.K) := by
  intro pins s σ H vs zs us ws Q I r rz h
  obtain ⟨a, ns, d, rfl, rfl, hs, q⟩ := h
  obtain ⟨its, rv, pl, _⟩ := I.list hs
  rw [Vals.ref1 r]
  obtain ⟨w, rfl, hw⟩ := vals1 rz
  obtain ⟨t, rfl⟩ : ∃ t, w = Value.int d t := hw
  have hi : IntsAre its ns := rv.ints
  have hl := pl.isList
  obtain ⟨xs, e⟩ := hi.allInts.items
  have hn : numsOf (intItems xs).toList = ns := by rw [← e]; exact hi.numsOf
  rw [nums_intItems] at hn
  rw [e] at hl
  have hsz : (intItems xs).size = ns.length := by rw [← e, List.size_toArray, ← rv.length, List.length_map]
  have hsx : xs.size = ns.length := by rw [← hn, List.length_map, Array.length_toList]
  refine PySem.call_max_walkD (PySem.W.iter_listW (I.ok.hd hc) hl fun s₂ e2 W st hfp hw hk => ?_)
  refine ⟨_, _, _, _, _, _, _, s.heap, fun i j => decide (numAt xs i > numAt xs j), rfl, W, st, hfp, hw, hk, fun h0 s' m => ?_, fun h0 => ⟨fun i j vi vj s1 Q1 E1 _ e1 e3 hq => CmpOf.ints_gt (numAt xs) (fun _ _ => intItems_at) i j vi vj s1 Q1 E1 e1 e3 hq, fun v s' hP m => ?_⟩⟩
  · obtain ⟨h', tk, es, hkk⟩ := PySem.W.moved_old e2 rfl m
    have en : ns = [] := List.length_eq_zero_iff.mp (by omega)
    subst es
    refine ⟨.int d, H, I.kept hkk, ⟨t, rfl⟩, ?_⟩
    unfold mxD at q
    rwa [if_pos en] at q
  · obtain ⟨h', tk, es, hkk⟩ := PySem.W.moved_old e2 rfl m
    subst es
    have hP' : (intItems xs)[argBest (fun i j => decide (numAt xs i > numAt xs j)) (xs.size - 1)]? = some v := by
      rw [show (intItems xs).size = xs.size by rw [hsz, hsx]] at hP
      exact hP
    obtain ⟨t2, rfl⟩ := intItems_at hP'
    obtain ⟨h1, h2⟩ := argBest_gt (numAt xs) (xs.size - 1)
    have hpos : 0 < ns.length := by omega
    have em : mx ns = numAt xs (argBest (fun i j => decide (numAt xs i > numAt xs j)) (xs.size - 1)) := by
      refine mx_eq ?_ fun y hy => ?_
      · rw [numAt_eq, ← hn]; exact PySem.getD_mem (by rw [List.length_map, Array.length_toList]; omega)
      · rw [← hn] at hy
        obtain ⟨j, hj, rfl⟩ := mem_getD hy
        rw [List.length_map, Array.length_toList] at hj
        rw [← numAt_eq]; exact h2 j (by omega)
    refine ⟨.int _, H, I.kept hkk, ⟨t2, rfl⟩, ?_⟩
    unfold mxD at q
    rw [if_neg (fun z => by rw [z] at hpos; exact absurd hpos (by decide)), em] at q
    exact q
/-! the columns stand out by the greatest height at most -/
theorem fold_spread (r : Bool) (D : Int) : ∀ (hs : List Int) (s : List (Nat × Int) × List Int), s.2 ≠ [] → (∀ h ∈ hs, 0 ≤ h ∧ h ≤ D) → (∀ c ∈ s.2, c ≤ mn s.2 + D) → ∀ c ∈ (hs.foldl (put r) s).2, c ≤ mn (hs.foldl (put r) s).2 + D
  | [], s, _, _, hc => hc
  | h :: hs, s, hne, hp, hc => by
    obtain ⟨l, p1, p2⟩ := put_cols r s h hne
    have h0 := hp h List.mem_cons_self
    have m0 := mn_spec hne
    have m1 := mn_spec (put_ne (r := r) (h := h) hne)
    have up : mn s.2 ≤ mn (put r s h).2 := by
      rcases List.mem_cons.mp (p2.subset m1.1) with e | e
      · rw [e]; omega
      · exact m0.2 _ (p1.subset (List.mem_cons_of_mem _ e))
    refine fold_spread r D hs (put r s h) (put_ne hne) (fun x hx => hp x (List.mem_cons_of_mem _ hx)) fun c hcm => ?_
    rcases List.mem_cons.mp (p2.subset hcm) with e | e
    · rw [e]; omega
    · have := hc c (p1.subset (List.mem_cons_of_mem _ e)); omega
theorem perm_sum {a b : List Int} (p : a.Perm b) : a.sum = b.sum := by
  induction p with
  | nil => rfl
  | cons x _ ih => rw [List.sum_cons, List.sum_cons, ih]
  | swap x y l => rw [List.sum_cons, List.sum_cons, List.sum_cons, List.sum_cons]; omega
  | trans _ _ h1 h2 => exact h1.trans h2
theorem sum_le_mul {B : Int} : ∀ {l : List Int}, (∀ c ∈ l, c ≤ B) → l.sum ≤ l.length * B
  | [], _ => by simp
  | x :: l, h => by
    have h1 := h x List.mem_cons_self
    have h2 := sum_le_mul (B := B) (l := l) fun c hc => h c (List.mem_cons_of_mem _ hc)
    have e : (((x :: l).length : Nat) : Int) * B = (l.length : Int) * B + B := by
      rw [List.length_cons, Int.natCast_add, Int.add_mul]; simp
    rw [List.sum_cons, e]; omega
theorem mul_le_sum {B : Int} : ∀ {l : List Int}, (∀ c ∈ l, B ≤ c) → l.length * B ≤ l.sum
  | [], _ => by simp
  | x :: l, h => by
    have h1 := h x List.mem_cons_self
    have h2 := mul_le_sum (B := B) (l := l) fun c hc => h c (List.mem_cons_of_mem _ hc)
    have e : (((x :: l).length : Nat) : Int) * B = (l.length : Int) * B + B := by
      rw [List.length_cons, Int.natCast_add, Int.add_mul]; simp
    rw [List.sum_cons, e]; omega
/-- what lowest_bounds finds -/
def lbD (cs hs : List Int) : Int := if mx cs - mn cs > mxD hs 0 then mx cs - mn cs else mxD hs 0
def lbLo (cs hs : List Int) : Int := -(((((cs.length : Nat) : Int) - 1) * lbD cs hs - (ends cs hs).sum) / ((cs.length : Nat) : Int))
theorem lbD_le (cs hs : List Int) : mx cs - mn cs ≤ lbD cs hs ∧ mxD hs 0 ≤ lbD cs hs := by
  unfold lbD
  split <;> omega
theorem lbD_mem {cs hs : List Int} : (lbD cs hs = mx cs - mn cs) ∨ lbD cs hs = mxD hs 0 := by
  unfold lbD
  split <;> simp
/-- the bounds of a division up -/
theorem ceil_facts {n X q : Int} (hn : 0 < n) (e : q = X / n) : n * (-q - 1) < -X ∧ -X ≤ n * -q := by
  have h1 := Int.mul_ediv_self_le (x := X) (k := n) (by omega)
  have h2 := Int.lt_mul_ediv_self_add (x := X) (k := n) hn
  rw [← e] at h1 h2
  rw [Int.mul_sub, Int.mul_neg, Int.mul_one]
  omega
theorem floor_facts {n X q : Int} (hn : 0 < n) (e : q = X / n) : n * q ≤ X ∧ X < n * (q + 1) := by
  have h1 := Int.mul_ediv_self_le (x := X) (k := n) (by omega)
  have h2 := Int.lt_mul_ediv_self_add (x := X) (k := n) hn
  rw [← e] at h1 h2
  rw [Int.mul_add, Int.mul_one]
  omega
theorem low_within {es : List Int} {D : Int} (hne : es ≠ []) (h : ∀ c ∈ es, c ≤ mn es + D) : es.sum - (((es.length : Nat) : Int) - 1) * D ≤ ((es.length : Nat) : Int) * mn es ∧ ((es.length : Nat) : Int) * mn es ≤ es.sum := by
  refine ⟨?_, mul_le_sum (mn_spec hne).2⟩
  have m := (mn_spec hne).1
  have g := ix_get m
  have p := erase_perm es (ix (mn es) es) (mn es) g
  have hs := perm_sum p
  have hl := p.length_eq
  have hb := sum_le_mul (B := mn es + D) (l := es.eraseIdx (ix (mn es) es)) fun c hc => h c (p.subset (List.mem_cons_of_mem _ hc))
  generalize es.eraseIdx (ix (mn es) es) = l at p hs hl hb
  rw [List.sum_cons] at hs
  rw [List.length_cons] at hl
  have e1 : ((es.length : Nat) : Int) = (l.length : Int) + 1 := by omega
  rw [e1, show ((l.length : Int) + 1 - 1) = (l.length : Int) by omega, Int.add_mul, Int.one_mul]
  rw [Int.mul_add] at hb
  omega
/-! a start that is nowhere higher: no top is greater -/
def cnt (t : Int) (l : List Int) : Nat := l.countP fun c => decide (c ≤ t)
def Dom (A B : List Int) : Prop := ∀ t, cnt t A ≤ cnt t B
theorem cnt_perm {t : Int} {a b : List Int} (p : a.Perm b) : cnt t a = cnt t b := p.countP_eq _
theorem cnt_cons (t x : Int) (l : List Int) : cnt t (x :: l) = cnt t l + if x ≤ t then 1 else 0 := by
  unfold cnt
  rw [List.countP_cons]
  by_cases h : x ≤ t
  · rw [if_pos (by simpa using h), if_pos h]
  · rw [if_neg (by simpa using h), if_neg h]
theorem cnt_zero {t : Int} {l : List Int} (h : ∀ c ∈ l, t < c) : cnt t l = 0 := by
  unfold cnt
  rw [List.countP_eq_zero]
  intro c hc
  have := h c hc
  simp; omega
theorem Dom.mn {A B : List Int} (h : Dom A B) (hA : A ≠ []) : B ≠ [] ∧ mn B ≤ mn A := by
  have s := mn_spec hA
  have h1 : 0 < cnt (Lc.mn A) A := List.countP_pos_iff.mpr ⟨_, s.1, by simp⟩
  have h2 : 0 < cnt (Lc.mn A) B := Nat.lt_of_lt_of_le h1 (h _)
  obtain ⟨c, hc, hle⟩ := List.countP_pos_iff.mp h2
  have hB : B ≠ [] := fun e => by rw [e] at hc; cases hc
  have := (mn_spec hB).2 c hc
  exact ⟨hB, by have : c ≤ Lc.mn A := by simpa using hle
                omega⟩
theorem Dom.put {r r' : Bool} {s s' : List (Nat × Int) × List Int} {x : Int} (h : Dom s.2 s'.2) (h0 : 0 ≤ x) (hne : s.2 ≠ []) : Dom (put r s x).2 (Lc.put r' s' x).2 := by
  obtain ⟨hne', hm⟩ := h.mn hne
  obtain ⟨l, p1, p2⟩ := put_cols r s x hne
  obtain ⟨l', p1', p2'⟩ := put_cols r' s' x hne'
  intro t
  have ht := h t
  rw [← cnt_perm p1, ← cnt_perm p1', cnt_cons, cnt_cons] at ht
  rw [cnt_perm p2, cnt_perm p2', cnt_cons, cnt_cons]
  by_cases hmt : Lc.mn s.2 ≤ t
  · rw [if_pos hmt, if_pos (by omega)] at ht
    by_cases h1 : Lc.mn s.2 + x ≤ t
    · rw [if_pos h1, if_pos (by omega)]; omega
    · rw [if_neg h1]; omega
  · have z : cnt t l = 0 := cnt_zero fun c hc => by
      have := (mn_spec hne).2 c (p1.subset (List.mem_cons_of_mem _ hc))
      omega
    rw [z, if_neg (by omega)]
    omega
def Le2 (a b : List Int) : Prop := a.length = b.length ∧ ∀ p ∈ a.zip b, p.2 ≤ p.1
theorem Le2.snoc {a b : List Int} {x y : Int} (h : Le2 a b) (hxy : y ≤ x) : Le2 (a ++ [x]) (b ++ [y]) := by
  refine ⟨by rw [List.length_append, List.length_append, h.1]; rfl, fun p hp => ?_⟩
  rw [List.zip_append h.1] at hp
  rcases List.mem_append.mp hp with hp | hp
  · exact h.2 p hp
  · have : p = (x, y) := List.mem_singleton.mp hp
    rw [this]; exact hxy
theorem fold_dom (r r' : Bool) : ∀ (hs : List Int) (s s' : List (Nat × Int) × List Int), s.2 ≠ [] → (∀ h ∈ hs, 0 ≤ h) → Dom s.2 s'.2 → Le2 (s.1.map (·.2)) (s'.1.map (·.2)) →
    Le2 ((hs.foldl (put r) s).1.map (·.2)) ((hs.foldl (put r') s').1.map (·.2)) ∧ Dom (hs.foldl (put r) s).2 (hs.foldl (put r') s').2
  | [], s, s', _, _, d, e => ⟨e, d⟩
  | h :: hs, s, s', hne, hp, d, e => by
    refine fold_dom r r' hs (put r s h) (put r' s' h) (put_ne hne) (fun x hx => hp x (List.mem_cons_of_mem _ hx)) (d.put (hp h List.mem_cons_self) hne) ?_
    show Le2 ((s.1 ++ [(low r s.2, mn s.2)]).map (·.2)) ((s'.1 ++ [(low r' s'.2, mn s'.2)]).map (·.2))
    rw [List.map_append, List.map_append]
    exact e.snoc (d.mn hne).2
theorem tops_dom {cs cs' hs : List Int} (hne : cs ≠ []) (hp : ∀ h ∈ hs, 0 ≤ h) (d : Dom cs cs') : ∀ g ∈ grow (tops cs hs) (tops cs' hs), g ≤ 0 := by
  have q := (fold_dom false false hs ([], cs) ([], cs') hne hp d ⟨rfl, fun p hp => by cases hp⟩).1
  intro g hg
  unfold grow at hg
  obtain ⟨p, hpm, rfl⟩ := List.mem_map.mp hg
  have := q.2 p hpm
  omega
theorem dom_more (cs : List Int) (x : Int) : Dom cs (cs ++ [x]) := fun t => by
  unfold cnt
  rw [List.countP_append]
  omega
end Lc

namespace Lc
open PySem PySem.Spec PyProof.Rows L2
/-! walks: for over enumerate, a comprehension over zip of tuples -/
theorem for_enum {K : PySem.W.Frag} {a : Addr} {xs : List V} {g : TG} {tb : TS} {D : Ends} {σ : L2.St} {H : Hp} (Pv : Nat → L2.St → Hp → Prop) (h0 : Pv 0 σ H) (hl : ∀ i σ H, i ≤ xs.length → Pv i σ H → SqL K H a xs)
    (hs : ∀ i x σ H T, xs[i]? = some x → Pv i σ H → H T = none → g (.ref T) σ (upd H T (.tup [.int (i : Nat), x])) fun σ2 H2 => tb { D with nx := Pv (i + 1), ct := Pv (i + 1), bk := D.nx } σ2 H2) (hd : ∀ σ H, Pv xs.length σ H → D.nx σ H) :
    ∃ W : Nat → Nat → L2.St → Hp → Prop, (∃ m, W 0 m σ H) ∧ ∀ i m σ H, W i m σ H →
      ((Ite K a).stop i H ∧ D.nx σ H) ∨ ((Ite K a).go i H ∧ ∃ N : L2.St → Hp → Prop, (∀ σ' H', N σ' H' → ∃ m', m' < m ∧ W (i + 1) m' σ' H') ∧ ∀ x H', (Ite K a).yld i H x H' → g x σ H' fun σ2 H2 => tb { D with nx := N, ct := N, bk := D.nx } σ2 H2) :=
  for_it walk_enum Pv h0 hl (fun i x σ H H' hi p y => by
    obtain ⟨T, u, v, rfl, nT, rfl, e1, e2⟩ := y
    cases e1
    exact hs i v σ H T e2 p nT) hd
theorem walk_zipT {K : PySem.W.Frag} {a b : Addr} {xs ys : List V} {n : Nat} (hn : n = min xs.length ys.length) : Walk (RZ.ItzT K a b) n (fun H => SqT K H a xs ∧ SqT K H b ys) (YPair (fun i => xs[i]?) (fun i => ys[i]?)) := by
  subst hn
  refine ⟨fun i _ hi q => ?_, fun _ q => ⟨xs, ys, q.1, q.2, by omega⟩, fun i H v H' _ q y => ?_⟩
  · have h1 : i < xs.length := by omega
    have h2 : i < ys.length := by omega
    exact ⟨xs, ys, xs[i], ys[i], q.1, q.2, by simp [h1], by simp [h2]⟩
  · obtain ⟨T, x, z, h1, h2, h3, h4, h5⟩ := y
    exact ⟨T, x, z, h1, h2, h3, h4 xs q.1, h5 ys q.2⟩
theorem lc_zipT {K : PySem.W.Frag} {a b D : Addr} {xs ys : List V} {g : TG} {tt : TT} {te : TE} {vs : List Nat} {σ : L2.St} {H0 : Hp} {Qd : Hp → Prop}
    (hle : xs.length = ys.length) (Pv : Nat → Hp → Prop) (h0 : Pv 0 (upd H0 D (.lst []))) (hl : ∀ i H, i ≤ xs.length → Pv i H → SqT K H a xs ∧ SqT K H b ys)
    (hs : ∀ i x y H T, xs[i]? = some x → ys[i]? = some y → Pv i H → H T = none → g (.ref T) (wipe σ vs) (upd H T (.tup [x, y])) fun σ2 H2 =>
      wipe σ2 vs = wipe σ vs ∧ tt σ2 H2 fun b H3 => if b = true then te σ2 H3 fun y H4 => ∃ acc, H4 D = some (.lst acc) ∧ acc.length < sizeLine ∧ Pv (i + 1) (upd H4 D (.lst (acc ++ [y]))) else Pv (i + 1) H3)
    (hd : ∀ H, Pv xs.length H → Qd H) :
    ∃ W : Nat → Nat → Hp → Prop, (∃ m, W 0 m (upd H0 D (.lst []))) ∧ ∀ i m H, W i m H →
      (((RZ.ItzT K a b).stop i H ∧ Qd H) ∨ ((RZ.ItzT K a b).go i H ∧ ∃ Nx : Hp → Prop, (∀ H', Nx H' → ∃ m', m' < m ∧ W (i + 1) m' H') ∧
        ∀ x H', (RZ.ItzT K a b).yld i H x H' → g x (wipe σ vs) H' fun σ2 H2 => wipe σ2 vs = wipe σ vs ∧ tt σ2 H2 fun b H3 =>
          if b = true then te σ2 H3 fun y H4 => ∃ acc, H4 D = some (.lst acc) ∧ acc.length < sizeLine ∧ Nx (upd H4 D (.lst (acc ++ [y]))) else Nx H3)) :=
  lc_it (walk_zipT (n := xs.length) (by omega)) Pv h0 hl (fun i x H H' hi p y => by
    obtain ⟨T, u, v, rfl, nT, rfl, e1, e2⟩ := y
    exact hs i u v H T e1 e2 p nT) hd
/-! sorted lists, their differences place by place -/
def srt (l : List Int) : List Int := l.mergeSort fun a b => decide (a ≤ b)
theorem srt_perm (l : List Int) : (srt l).Perm l := List.mergeSort_perm _ _
theorem srt_sorted (l : List Int) : Sorted (srt l) := by
  have := List.pairwise_mergeSort (le := fun a b : Int => decide (a ≤ b)) (fun a b c h1 h2 => by simp at *; omega) (fun a b => by simp; omega) l
  exact this.imp fun h => by simpa using h
theorem srt_len (l : List Int) : (srt l).length = l.length := (srt_perm l).length_eq
theorem srt_eq {l m : List Int} (p : m.Perm l) (s : Sorted m) : m = srt l := sorted_uniq s (srt_sorted l) (p.trans (srt_perm l).symm)
theorem srt_of_perm {a b : List Int} (p : a.Perm b) : srt a = srt b := srt_eq ((srt_perm a).trans p) (srt_sorted a)
theorem srt_add (l : List Int) (m : Int) : (srt l).map (· + m) = srt (l.map (· + m)) := srt_eq ((srt_perm l).map _) (List.Pairwise.map _ (fun a b h => by show a + m ≤ b + m; omega) (srt_sorted l))
theorem grow_neg : ∀ a b : List Int, grow b a = (grow a b).map fun x => -x
  | [], b => by cases b <;> rfl
  | x :: a, [] => rfl
  | x :: a, y :: b => by
    have ih := grow_neg a b
    unfold grow at ih ⊢
    simp only [List.zip_cons_cons, List.map_cons, ih]
    rw [show x - y = -(y - x) by omega]
theorem grow_add (m : Int) : ∀ a b : List Int, grow a (b.map (· + m)) = (grow a b).map (· + m)
  | [], b => by cases b <;> rfl
  | x :: a, [] => rfl
  | x :: a, y :: b => by
    have ih := grow_add m a b
    unfold grow at ih ⊢
    simp only [List.zip_cons_cons, List.map_cons, ih]
    rw [show y + m - x = y - x + m by omega]
theorem mn_add {l : List Int} (h : l ≠ []) (m : Int) : mn (l.map (· + m)) = mn l + m := by
  have s := mn_spec h
  exact mn_eq (List.mem_map.mpr ⟨_, s.1, rfl⟩) fun y hy => by
    obtain ⟨z, hz, rfl⟩ := List.mem_map.mp hy
    have := s.2 z hz
    show mn l + m ≤ z + m
    omega
theorem mx_add {l : List Int} (h : l ≠ []) (m : Int) : mx (l.map (· + m)) = mx l + m := by
  have s := mx_spec h
  exact mx_eq (List.mem_map.mpr ⟨_, s.1, rfl⟩) fun y hy => by
    obtain ⟨z, hz, rfl⟩ := List.mem_map.mp hy
    have := s.2 z hz
    show z + m ≤ mx l + m
    omega
theorem mn_neg (l : List Int) : mn (l.map fun x => -x) = - mx l := by unfold mx; omega
theorem mx_neg (l : List Int) : mx (l.map fun x => -x) = - mn l := by
  unfold mx
  rw [List.map_map]
  have : ((fun x : Int => -x) ∘ fun x : Int => -x) = id := by funext x; show - -x = x; omega
  rw [this, List.map_id]
def gaps (a b : List Int) : List Int := grow (srt a) (srt b)
def gLo (a b : List Int) : Int := mn (gaps a b)
def gHi (a b : List Int) : Int := mx (gaps a b)
theorem gaps_len {a b : List Int} (h : a.length = b.length) : (gaps a b).length = a.length := by
  unfold gaps
  rw [grow_len (by rw [srt_len, srt_len, h]), srt_len]
theorem gaps_perm {a b a' b' : List Int} (p : a'.Perm a) (q : b'.Perm b) : gaps a' b' = gaps a b := by
  unfold gaps
  rw [srt_of_perm p, srt_of_perm q]
theorem gaps_neg (a b : List Int) : gaps b a = (gaps a b).map fun x => -x := grow_neg _ _
theorem gaps_add (a b : List Int) (m : Int) : gaps a (b.map (· + m)) = (gaps a b).map (· + m) := by
  unfold gaps
  rw [← srt_add, grow_add]
theorem gaps_ne {a b : List Int} (h : a.length = b.length) (ha : a ≠ []) : gaps a b ≠ [] := fun e => ha (List.length_eq_zero_iff.mp (by rw [← gaps_len h, e]; rfl))
theorem gaps_in {a b : List Int} {M : Int} (ha : ∀ x ∈ a, 0 ≤ x ∧ x ≤ M) (hb : ∀ x ∈ b, 0 ≤ x ∧ x ≤ M) : ∀ g ∈ gaps a b, -M ≤ g ∧ g ≤ M := fun g hg => by
  unfold gaps grow at hg
  obtain ⟨p, hp, rfl⟩ := List.mem_map.mp hg
  have z := List.of_mem_zip (show (p.1, p.2) ∈ (srt a).zip (srt b) from hp)
  have h1 := ha _ ((srt_perm a).subset z.1)
  have h2 := hb _ ((srt_perm b).subset z.2)
  omega
end Lc

namespace Lc
/-! ### observed tops: the mathematics -/
/-- can the top at i come behind the tops before it -/
def okAt (n : Nat) (ts : List Int) (i : Nat) : Bool :=
  if i < n then decide (ts.getD i 0 = 0) else decide (ts.getD (i - 1) 0 ≤ ts.getD i 0) && decide (ts.getD (i - n) 0 < ts.getD i 0)
/-- the first fault -/
def ff (n : Nat) (ts : List Int) : Option Nat := (List.range ts.length).find? fun i => !okAt n ts i
theorem ff_none {n : Nat} {ts : List Int} : ff n ts = none ↔ ∀ i, i < ts.length → okAt n ts i = true := by
  unfold ff
  rw [List.find?_range_eq_none]
  simp
theorem ff_some {n d : Nat} {ts : List Int} : ff n ts = some d ↔ d < ts.length ∧ okAt n ts d = false ∧ ∀ j, j < d → okAt n ts j = true := by
  unfold ff
  rw [List.find?_range_eq_some]
  simp only [List.mem_range, Bool.not_eq_true', Bool.not_not]
  constructor
  · rintro ⟨a, b, c⟩; exact ⟨b, a, c⟩
  · rintro ⟨a, b, c⟩; exact ⟨b, a, c⟩
theorem getD_take {ts : List Int} {d i : Nat} (h : i < d) : (ts.take d).getD i 0 = ts.getD i 0 := by
  rw [List.getD_eq_getElem?_getD, List.getD_eq_getElem?_getD, List.getElem?_take_of_lt h]
theorem okAt_take {n d i : Nat} {ts : List Int} (h : i < d) : okAt n (ts.take d) i = okAt n ts i := by
  unfold okAt
  rw [getD_take h, getD_take (show i - 1 < d by omega), getD_take (show i - n < d by omega)]
theorem ff_take_none {n d : Nat} {ts : List Int} (h : ff n ts = some d) : ff n (ts.take d) = none := by
  obtain ⟨a, b, c⟩ := ff_some.mp h
  refine ff_none.mpr fun i hi => ?_
  rw [List.length_take] at hi
  rw [okAt_take (by omega)]
  exact c i (by omega)
theorem ff_take_some {n d : Nat} {ts : List Int} (h : ff n ts = some d) : ff n (ts.take (d + 1)) = some d := by
  obtain ⟨a, b, c⟩ := ff_some.mp h
  refine ff_some.mpr ⟨by rw [List.length_take]; omega, ?_, fun j hj => ?_⟩
  · rw [okAt_take (by omega)]; exact b
  · rw [okAt_take (by omega)]; exact c j hj
/-- tops as they are handed in -/
structure IsTops (ts : List Int) : Prop where
  len : ts.length ≤ 200
  all : ∀ t ∈ ts, 0 ≤ t ∧ t ≤ 999999999999999999999999999999
theorem getD_mem {ts : List Int} {i : Nat} (h : i < ts.length) : ts.getD i 0 ∈ ts := by
  rw [List.getD_eq_getElem?_getD, List.getElem?_eq_getElem h]
  exact List.getElem_mem h
theorem getD_of {ts : List Int} {i : Nat} {x : Int} (h : ts[i]? = some x) : ts.getD i 0 = x := by
  rw [List.getD_eq_getElem?_getD, h]; rfl
theorem get_of_getD {ts : List Int} {i : Nat} (h : i < ts.length) : ts[i]? = some (ts.getD i 0) := by
  rw [List.getD_eq_getElem?_getD, List.getElem?_eq_getElem h]; rfl
/-- tops that can follow never descend -/
theorem ok_step {n : Nat} {ts : List Int} {i : Nat} (hn : 1 ≤ n) (h0 : 1 ≤ i) (hp : okAt n ts (i - 1) = true) (h : okAt n ts i = true) : ts.getD (i - 1) 0 ≤ ts.getD i 0 := by
  unfold okAt at h hp
  by_cases hi : i < n
  · rw [if_pos hi] at h
    rw [if_pos (by omega)] at hp
    have h := of_decide_eq_true h
    have hp := of_decide_eq_true hp
    omega
  · rw [if_neg hi] at h
    have := Bool.and_eq_true_iff.mp h
    exact of_decide_eq_true this.1
theorem ok_mono {n : Nat} {ts : List Int} {m : Nat} (hn : 1 ≤ n) (h : ∀ j, j ≤ m → okAt n ts j = true) : ∀ k a, a + k ≤ m → ts.getD a 0 ≤ ts.getD (a + k) 0
  | 0, a, _ => Int.le_refl _
  | k + 1, a, hk => by
    have ih := ok_mono hn h k a (by omega)
    have st := ok_step (i := a + (k + 1)) hn (by omega) (h _ (by omega)) (h _ hk)
    have e : a + (k + 1) - 1 = a + k := by omega
    rw [e] at st
    omega
theorem ok_le {n : Nat} {ts : List Int} {m a b : Nat} (hn : 1 ≤ n) (h : ∀ j, j ≤ m → okAt n ts j = true) (hab : a ≤ b) (hb : b ≤ m) : ts.getD a 0 ≤ ts.getD b 0 := by
  have := ok_mono hn h (b - a) a (by omega)
  rwa [show a + (b - a) = b by omega] at this
/-- the law's own look at one top -/
def bad1 (n : Nat) (ts : List Int) (i : Nat) : Bool := (decide (i < n) && decide (ts.getD i 0 ≠ 0)) || (decide (n ≤ i) && decide (ts.getD i 0 < 1))
def bad2 (n : Nat) (ts : List Int) (i : Nat) : Bool := (decide (0 < i) && decide (ts.getD i 0 < ts.getD (i - 1) 0)) || (decide (n ≤ i) && decide ((ts.drop (i - n)).take (n + 1) = List.replicate (n + 1) (ts.getD i 0)))
theorem bad_ok {n : Nat} {ts : List Int} {i : Nat} (hn : 1 ≤ n) (hi : i < ts.length) (h0 : ∀ t ∈ ts, 0 ≤ t) (h : ∀ j, j < i → okAt n ts j = true) : (bad1 n ts i || bad2 n ts i) = !okAt n ts i := by
  have hz : ∀ j, j < ts.length → 0 ≤ ts.getD j 0 := fun j hj => h0 _ (getD_mem hj)
  have g0 := hz i hi
  by_cases hin : i < n
  · have e1 : okAt n ts i = decide (ts.getD i 0 = 0) := by unfold okAt; rw [if_pos hin]
    rw [e1]
    by_cases hv : ts.getD i 0 = 0
    · have b1 : bad1 n ts i = false := by
        unfold bad1
        rw [hv]
        simp; omega
      have b2 : bad2 n ts i = false := by
        unfold bad2
        rw [show decide (n ≤ i) = false from decide_eq_false (by omega), Bool.false_and, Bool.or_false]
        by_cases hi0 : 0 < i
        · have := hz (i - 1) (by omega)
          have q := h (i - 1) (by omega)
          unfold okAt at q
          rw [if_pos (by omega)] at q
          have q := of_decide_eq_true q
          rw [q, hv]; simp
        · simp [hi0]
      rw [b1, b2, hv]; rfl
    · have b1 : bad1 n ts i = true := by
        unfold bad1
        rw [decide_eq_true hin, decide_eq_true hv]; rfl
      rw [b1, decide_eq_false hv]; rfl
  · have hni : n ≤ i := by omega
    have e1 : okAt n ts i = (decide (ts.getD (i - 1) 0 ≤ ts.getD i 0) && decide (ts.getD (i - n) 0 < ts.getD i 0)) := by unfold okAt; rw [if_neg hin]
    rw [e1]
    have gp := hz (i - n) (by omega)
    have gl := hz (i - 1) (by omega)
    have inc : ∀ a b, a ≤ b → b ≤ i - 1 → ts.getD a 0 ≤ ts.getD b 0 := fun a b hab hb => ok_le (m := i - 1) hn (fun j hj => h j (by omega)) hab hb
    by_cases hle : ts.getD (i - 1) 0 ≤ ts.getD i 0
    · by_cases hlt : ts.getD (i - n) 0 < ts.getD i 0
      · have b1 : bad1 n ts i = false := by
          unfold bad1
          rw [decide_eq_false hin, Bool.false_and, Bool.false_or, decide_eq_false (show ¬ ts.getD i 0 < 1 by omega), Bool.and_false]
        have b2 : bad2 n ts i = false := by
          unfold bad2
          rw [decide_eq_false (show ¬ ts.getD i 0 < ts.getD (i - 1) 0 by omega), Bool.and_false, Bool.false_or, decide_eq_true hni, Bool.true_and]
          refine decide_eq_false fun e => ?_
          have q := congrArg (fun l : List Int => l.getD 0 0) e
          have q1 : ((ts.drop (i - n)).take (n + 1)).getD 0 0 = ts.getD (i - n) 0 := by
            rw [getD_take (by omega), List.getD_eq_getElem?_getD, List.getElem?_drop, List.getD_eq_getElem?_getD]; rfl
          have q2 : (List.replicate (n + 1) (ts.getD i 0)).getD 0 0 = ts.getD i 0 := rfl
          have q' : ((ts.drop (i - n)).take (n + 1)).getD 0 0 = (List.replicate (n + 1) (ts.getD i 0)).getD 0 0 := q
          rw [q1, q2] at q'
          omega
        rw [b1, b2, decide_eq_true hle, decide_eq_true hlt]; rfl
      · rw [decide_eq_false hlt, Bool.and_false]
        have b2 : bad2 n ts i = true := by
          unfold bad2
          rw [decide_eq_true hni, Bool.true_and, Bool.or_eq_true]
          right
          refine decide_eq_true (List.ext_getElem? fun k => ?_)
          by_cases hk : k < n + 1
          · rw [List.getElem?_take_of_lt hk, List.getElem?_drop, List.getElem?_replicate, if_pos hk, get_of_getD (by omega)]
            have : ts.getD (i - n + k) 0 = ts.getD i 0 := by
              by_cases hkn : k = n
              · subst hkn; rw [show i - k + k = i by omega]
              · have a1 := inc (i - n) (i - n + k) (by omega) (by omega)
                have a2 := inc (i - n + k) (i - 1) (by omega) (by omega)
                omega
            rw [this]
          · rw [List.getElem?_eq_none (by rw [List.length_take]; omega), List.getElem?_eq_none (by rw [List.length_replicate]; omega)]
        rw [b2, Bool.or_true]; rfl
    · rw [decide_eq_false hle, Bool.false_and]
      have b2 : bad2 n ts i = true := by
        unfold bad2
        rw [decide_eq_true (show 0 < i by omega), decide_eq_true (show ts.getD i 0 < ts.getD (i - 1) 0 by omega)]; rfl
      rw [b2, Bool.or_true]; rfl
/-- tops that are possible -/
def Poss (n : Nat) (ts : List Int) : Prop := ∀ i, i < ts.length → okAt n ts i = true
theorem Poss.ff {n : Nat} {ts : List Int} (h : Poss n ts) : ff n ts = none := ff_none.mpr h
theorem poss_zeros {n m : Nat} (h : m ≤ n) : Poss n (List.replicate m 0) := fun i hi => by
  rw [List.length_replicate] at hi
  unfold okAt
  rw [if_pos (by omega)]
  refine decide_eq_true ?_
  rw [List.getD_eq_getElem?_getD, List.getElem?_replicate, if_pos hi]; rfl
theorem getD_append_left {a b : List Int} {i : Nat} (h : i < a.length) : (a ++ b).getD i 0 = a.getD i 0 := by
  rw [List.getD_eq_getElem?_getD, List.getD_eq_getElem?_getD, List.getElem?_append_left h]
theorem getD_rep {a : List Int} {m i : Nat} {x : Int} (h : a.length ≤ i) (h2 : i < a.length + m) : (a ++ List.replicate m x).getD i 0 = x := by
  rw [List.getD_eq_getElem?_getD, List.getElem?_append_right h, List.getElem?_replicate, if_pos (by omega)]; rfl
/-- one group more -/
theorem poss_group {n m : Nat} {ts : List Int} {x : Int} (hn : 1 ≤ n) (h : Poss n ts) (hl : n ≤ ts.length) (hm : m ≤ n) (hx : ∀ t ∈ ts, t < x) : Poss n (ts ++ List.replicate m x) := fun i hi => by
  rw [List.length_append, List.length_replicate] at hi
  by_cases hc : i < ts.length
  · have q := h i hc
    unfold okAt at q ⊢
    rw [getD_append_left hc, getD_append_left (show i - 1 < ts.length by omega), getD_append_left (show i - n < ts.length by omega)]
    exact q
  · unfold okAt
    rw [if_neg (by omega), getD_rep (by omega) hi, getD_append_left (show i - n < ts.length by omega)]
    have h1 := hx _ (getD_mem (show i - n < ts.length by omega))
    rw [decide_eq_true h1, Bool.and_true]
    refine decide_eq_true ?_
    by_cases hp : i - 1 < ts.length
    · rw [getD_append_left hp]
      have := hx _ (getD_mem hp)
      omega
    · rw [getD_rep (by omega) (by omega)]
      exact Int.le_refl _
end Lc
namespace Lc
open PySem PySem.Spec PyProof.Rows L2
theorem eqv_lst (ns ms : List Int) : PyData.eqv (.list (ns.map PyData.int)) (.list (ms.map PyData.int)) = decide (ns = ms) := by
  show PyData.eqvAll _ _ = _
  exact PySem.W.ked_eqvAll ns ms
/-- a test by its answer -/
theorem pt_of {t : TT} {σ : L2.St} {H : Hp} {k0 : Bool → Hp → Prop} (b : Bool) (h : ∀ k : Bool → Hp → Prop, (∀ H2, Same H H2 → k b H2) → t σ H k) (hk : ∀ H2, Same H H2 → k0 b H2) : t σ H k0 := h k0 hk
/-- if, by its test's answer -/
theorem seqIf {c : TT} {A B u : TS} {D : Ends} {σ : L2.St} {H : Hp} (b : Bool) (hc : ∀ k : Bool → Hp → Prop, (∀ H2, Same H H2 → k b H2) → c σ H k)
    (hk : ∀ H2, Same H H2 → if b = true then A { D with nx := fun σ' H' => u D σ' H' } σ H2 else B { D with nx := fun σ' H' => u D σ' H' } σ H2) : tSeq (tIfS c A B) u D σ H := hc _ hk
/-- if without else -/
theorem seqIf0 {c : TT} {A u : TS} {D : Ends} {σ : L2.St} {H : Hp} (b : Bool) (hc : ∀ k : Bool → Hp → Prop, (∀ H2, Same H H2 → k b H2) → c σ H k)
    (hk : ∀ H2, Same H H2 → if b = true then A { D with nx := fun σ' H' => u D σ' H' } σ H2 else u D σ H2) : tSeq (tIfS c A tNext) u D σ H := hc _ hk
theorem lastIf0 {c : TT} {A : TS} {D : Ends} {σ : L2.St} {H : Hp} (b : Bool) (hc : ∀ k : Bool → Hp → Prop, (∀ H2, Same H H2 → k b H2) → c σ H k)
    (hk : ∀ H2, Same H H2 → if b = true then A D σ H2 else D.nx σ H2) : tIfS c A tNext D σ H := hc _ hk
theorem lastIf {c : TT} {A B : TS} {D : Ends} {σ : L2.St} {H : Hp} (b : Bool) (hc : ∀ k : Bool → Hp → Prop, (∀ H2, Same H H2 → k b H2) → c σ H k)
    (hk : ∀ H2, Same H H2 → if b = true then A D σ H2 else B D σ H2) : tIfS c A B D σ H := hc _ hk
/-- a statement, then what follows, by what stands between them -/
theorem seqJ {c : TT} {A B u : TS} {D : Ends} {σ : L2.St} {H : Hp} (Inv : L2.St → Hp → Prop) (h1 : (∀ σ' H', Inv σ' H' → u D σ' H') → tIfS c A B { D with nx := u D } σ H) (h2 : ∀ σ' H', Inv σ' H' → u D σ' H') : tSeq (tIfS c A B) u D σ H := h1 h2
/-- a name is set -/
theorem setG {i : Nat} {x : V} {σ : L2.St} {H : Hp} {N : L2.St → Hp → Prop} {r : VK} {b c : L2.St → Hp → Prop} (h : N (σ.set i (some x)) H) : gName i x σ H (Ends.nx { nx := N, rt := r, bk := b, ct := c }) := h
theorem snoc_map (xs : List Int) (x : Int) : xs.map V.int ++ [V.int x] = (xs ++ [x]).map V.int := by rw [List.map_append]; rfl
/-- a comprehension over a list of ints -/
theorem map_lc {K : PySem.W.Frag} {a D : Addr} {ns : List Int} {te : TE} {j : Nat} {vs : List Nat} {σ : L2.St} {H : Hp} {Qd : Hp → Prop} (fn : Int → Int) (hA : SqL K H a (ns.map V.int)) (hl : ns.length ≤ 1000) (nD : H D = none)
    (hw : ∀ v, wipe ((wipe σ vs).set j (some v)) vs = wipe σ vs) (ht : ∀ x ∈ ns, ∀ (H' : Hp) (Q : VK), Q (.int (fn x)) H' → te ((wipe σ vs).set j (some (.int x))) H' Q)
    (k : ∀ H', Same H H' → H' D = some (.lst ((ns.map fn).map V.int)) → Qd H') :
    ∃ W : Nat → Nat → Hp → Prop, (∃ m, W 0 m (upd H D (.lst []))) ∧ ∀ i m H, W i m H →
      ((Itl K a).stop i H ∧ Qd H) ∨ ((Itl K a).go i H ∧ ∃ Nx : Hp → Prop, (∀ H', Nx H' → ∃ m', m' < m ∧ W (i + 1) m' H') ∧ ∀ x H', (Itl K a).yld i H x H' → gName j x (wipe σ vs) H' fun σ2 H2 => wipe σ2 vs = wipe σ vs ∧ tYes σ2 H2 fun b H3 =>
        if b = true then te σ2 H3 fun y H4 => ∃ acc, H4 D = some (.lst acc) ∧ acc.length < sizeLine ∧ Nx (upd H4 D (.lst (acc ++ [y]))) else Nx H3) := by
  refine lc_list (K := K) (a := a) (xs := ns.map V.int) (fun i H' => Same H H' ∧ H' D = some (.lst (((ns.map fn).take i).map V.int))) ⟨same_new _ nD, upd_same⟩ (fun i H' _ h => h.1.seq hA) (fun i v H' ev h => ?_) (fun H' h => ?_)
  · obtain ⟨x, ex, rfl⟩ := get_map ev
    refine ⟨hw _, ?_⟩
    show te ((wipe σ vs).set j (some (.int x))) H' _
    refine ht x (List.mem_of_getElem? ex) _ _ ⟨_, h.2, ?_, same_set h.1 nD, ?_⟩
    · rw [List.length_map, List.length_take]; exact small_of (m := 1000) (by rw [List.length_map]; omega) (by decide)
    · rw [upd_same]
      refine congrArg (fun z => some (HO.lst z)) (take_map_succ V.int ?_)
      rw [List.getElem?_map, ex]; rfl
  · obtain ⟨sm, eD⟩ := h
    have e1 : (ns.map V.int).length = (ns.map fn).length := by rw [List.length_map, List.length_map]
    rw [e1, List.take_length] at eD
    exact k H' sm eD
/-- a comprehension with a test over a list of ints -/
theorem fmap_lc {K : PySem.W.Frag} {a D : Addr} {ns : List Int} {tt : TT} {te : TE} {j : Nat} {vs : List Nat} {σ : L2.St} {H : Hp} {Qd : Hp → Prop} (fn : Int → Int) (pr : Int → Bool) (hA : SqL K H a (ns.map V.int)) (hl : ns.length ≤ 1000) (nD : H D = none)
    (hw : ∀ v, wipe ((wipe σ vs).set j (some v)) vs = wipe σ vs) (htt : ∀ x ∈ ns, ∀ (H' : Hp) (Q : Bool → Hp → Prop), Q (pr x) H' → tt ((wipe σ vs).set j (some (.int x))) H' Q) (ht : ∀ x ∈ ns, ∀ (H' : Hp) (Q : VK), Q (.int (fn x)) H' → te ((wipe σ vs).set j (some (.int x))) H' Q)
    (k : ∀ H', Same H H' → H' D = some (.lst (((ns.filter pr).map fn).map V.int)) → Qd H') :
    ∃ W : Nat → Nat → Hp → Prop, (∃ m, W 0 m (upd H D (.lst []))) ∧ ∀ i m H, W i m H →
      ((Itl K a).stop i H ∧ Qd H) ∨ ((Itl K a).go i H ∧ ∃ Nx : Hp → Prop, (∀ H', Nx H' → ∃ m', m' < m ∧ W (i + 1) m' H') ∧ ∀ x H', (Itl K a).yld i H x H' → gName j x (wipe σ vs) H' fun σ2 H2 => wipe σ2 vs = wipe σ vs ∧ tt σ2 H2 fun b H3 =>
        if b = true then te σ2 H3 fun y H4 => ∃ acc, H4 D = some (.lst acc) ∧ acc.length < sizeLine ∧ Nx (upd H4 D (.lst (acc ++ [y]))) else Nx H3) := by
  refine lc_list (K := K) (a := a) (xs := ns.map V.int) (fun i H' => Same H H' ∧ H' D = some (.lst ((((ns.take i).filter pr).map fn).map V.int))) ⟨same_new _ nD, upd_same⟩ (fun i H' _ h => h.1.seq hA) (fun i v H' ev h => ?_) (fun H' h => ?_)
  · obtain ⟨x, ex, rfl⟩ := get_map ev
    have e1 : ns.take (i + 1) = ns.take i ++ [x] := by rw [List.take_add_one, ex]; rfl
    refine ⟨hw _, ?_⟩
    show tt ((wipe σ vs).set j (some (.int x))) H' _
    refine htt x (List.mem_of_getElem? ex) _ _ ?_
    cases hp : pr x with
    | true =>
      refine ite_t rfl (ht x (List.mem_of_getElem? ex) _ _ ⟨_, h.2, ?_, same_set h.1 nD, ?_⟩)
      · rw [List.length_map, List.length_map]
        have := List.length_filter_le pr (ns.take i)
        rw [List.length_take] at this
        exact small_of (m := 1000) (by omega) (by decide)
      · rw [upd_same, e1, List.filter_append, List.filter_cons, if_pos hp, List.map_append, List.map_append]; rfl
    | false =>
      refine ite_f Bool.false_ne_true ⟨h.1, ?_⟩
      rw [e1, List.filter_append, List.filter_cons, if_neg (by rw [hp]; exact Bool.false_ne_true), List.filter_nil, List.append_nil]
      exact h.2
  · obtain ⟨sm, eD⟩ := h
    rw [List.length_map, List.take_length] at eD
    exact k H' sm eD
theorem ite_of {tt : Bool} {σ : L2.St} {H : Hp} {Q : VK} {c1 c2 : Int} (h : Q (.int (if tt = true then c1 else c2)) H) : if tt = true then tC (.int c1) σ H Q else tC (.int c2) σ H Q := by
  cases tt <;> exact h
theorem two_of {tt : Bool} {c1 c2 lo hi : Int} (h1 : lo ≤ c1 ∧ c1 ≤ hi) (h2 : lo ≤ c2 ∧ c2 ≤ hi) : ∃ N : Int, (if tt = true then c1 else c2) = N ∧ lo ≤ N ∧ N ≤ hi := by
  cases tt
  · exact ⟨c2, rfl, h2.1, h2.2⟩
  · exact ⟨c1, rfl, h1.1, h1.2⟩
end Lc

namespace Lc
/-! ### groups of equal tops -/
def flat (gs : List (Int × Nat)) : List Int := gs.flatMap fun g => List.replicate g.2 g.1
theorem flat_app (a b : List (Int × Nat)) : flat (a ++ b) = flat a ++ flat b := List.flatMap_append
theorem flat_one (v : Int) (s : Nat) : flat [(v, s)] = List.replicate s v := by
  unfold flat
  rw [List.flatMap_cons, List.flatMap_nil, List.append_nil]
def rlS (acc : List (Int × Nat)) (x : Int) : List (Int × Nat) := match acc.getLast? with
  | some g => if g.1 = x then acc.dropLast ++ [(g.1, g.2 + 1)] else acc ++ [(x, 1)]
  | none => [(x, 1)]
def rl (l : List Int) : List (Int × Nat) := l.foldl rlS []
theorem rl_snoc (l : List Int) (x : Int) : rl (l ++ [x]) = rlS (rl l) x := by
  unfold rl
  rw [List.foldl_append]; rfl
theorem snoc_ind {α : Type} {P : List α → Prop} (h0 : P []) (h1 : ∀ l x, P l → P (l ++ [x])) : ∀ l, P l := by
  intro l
  have h : ∀ k, k ≤ l.length → P (l.take k) := fun k => by
    induction k with
    | zero => intro _; exact h0
    | succ k ih =>
      intro hk
      have e : l.take (k + 1) = l.take k ++ [l[k]] := by rw [List.take_add_one, List.getElem?_eq_getElem (by omega)]; rfl
      rw [e]
      exact h1 _ _ (ih (by omega))
  have := h l.length (Nat.le_refl _)
  rwa [List.take_length] at this
theorem last_snoc {α : Type} (l : List α) (x : α) : (l ++ [x]).getLast? = some x := by simp
theorem rlS_last (acc : List (Int × Nat)) (x : Int) : ∃ s, (rlS acc x).getLast? = some (x, s) := by
  unfold rlS
  split
  · rename_i g hg
    split
    · rename_i h; exact ⟨_, by rw [last_snoc, h]⟩
    · exact ⟨_, last_snoc _ _⟩
  · exact ⟨1, rfl⟩
theorem drop_last_eq {α : Type} {l : List α} {x : α} (h : l.getLast? = some x) : l = l.dropLast ++ [x] := by
  have hne : l ≠ [] := fun e => by rw [e] at h; cases h
  have := List.dropLast_concat_getLast hne
  rw [List.getLast?_eq_getLast hne] at h
  rw [← Option.some.inj h]
  exact this.symm
theorem flat_rlS (acc : List (Int × Nat)) (x : Int) : flat (rlS acc x) = flat acc ++ [x] := by
  unfold rlS
  split
  · rename_i g hg
    split
    · rename_i h
      have e := drop_last_eq hg
      conv => rhs; rw [e]
      rw [flat_app, flat_app, flat_one, show flat [g] = List.replicate g.2 g.1 from flat_one _ _, List.append_assoc, List.replicate_succ', h]
    · rw [flat_app, flat_one]; rfl
  · rename_i hg
    have e : acc = [] := List.getLast?_eq_none_iff.mp hg
    rw [e, flat_one]; rfl
theorem flat_rl : ∀ l : List Int, flat (rl l) = l := snoc_ind rfl fun l x ih => by rw [rl_snoc, flat_rlS, ih]
theorem rl_pos : ∀ l : List Int, ∀ g ∈ rl l, 1 ≤ g.2 := snoc_ind (fun g h => by cases h) fun l x ih g hg => by
  rw [rl_snoc] at hg
  unfold rlS at hg
  split at hg
  · split at hg
    · rcases List.mem_append.mp hg with h | h
      · exact ih g (List.dropLast_subset _ h)
      · rw [List.mem_singleton.mp h]; show 1 ≤ _ + 1; omega
    · rcases List.mem_append.mp hg with h | h
      · exact ih g h
      · rw [List.mem_singleton.mp h]; exact Nat.le_refl 1
  · rw [List.mem_singleton.mp hg]; exact Nat.le_refl 1
/-- the last value -/
theorem rl_last (l : List Int) (x : Int) : ∃ s, (rl (l ++ [x])).getLast? = some (x, s) := by rw [rl_snoc]; exact rlS_last _ _
theorem rl_val : ∀ l : List Int, ∀ g ∈ rl l, g.1 ∈ l := fun l g hg => by
  have e := flat_rl l
  rw [← e]
  refine List.mem_flatMap.mpr ⟨g, hg, ?_⟩
  have := rl_pos l g hg
  exact List.mem_replicate.mpr ⟨by omega, rfl⟩
/-- the sizes, as a loop finds them -/
theorem sizes_same {l : List Int} {x y : Int} (h : l.getLast? = some y) (e : x = y) : (rl (l ++ [x])).map (·.2) = ((rl l).map (·.2)).dropLast ++ [((rl l).map (·.2)).getLastD 0 + 1] := by
  have el := drop_last_eq h
  obtain ⟨s, hs⟩ := rl_last l.dropLast y
  rw [← el] at hs
  rw [rl_snoc]
  unfold rlS
  rw [hs]
  show List.map (fun g : Int × Nat => g.2) (if y = x then (rl l).dropLast ++ [(y, s + 1)] else rl l ++ [(x, 1)]) = _
  rw [if_pos e.symm]
  have e2 := drop_last_eq hs
  conv => rhs; rw [e2]
  simp
theorem sizes_new {l : List Int} {x : Int} (h : ∀ y, l.getLast? = some y → x ≠ y) : (rl (l ++ [x])).map (·.2) = (rl l).map (·.2) ++ [1] := by
  rw [rl_snoc]
  unfold rlS
  cases hl : l.getLast? with
  | none =>
    have e : l = [] := List.getLast?_eq_none_iff.mp hl
    rw [e]; rfl
  | some y =>
    have el := drop_last_eq hl
    obtain ⟨s, hs⟩ := rl_last l.dropLast y
    rw [← el] at hs
    rw [hs]
    show List.map (fun g : Int × Nat => g.2) (if y = x then (rl l).dropLast ++ [(y, s + 1)] else rl l ++ [(x, 1)]) = _
    rw [if_neg (fun z => h y hl z.symm), List.map_append]; rfl
theorem rl_nil_of {l : List Int} (h : l ≠ []) : (rl l).map (·.2) ≠ [] := fun e => by
  have e2 : rl l = [] := List.map_eq_nil_iff.mp e
  have := flat_rl l
  rw [e2] at this
  exact h this.symm
/-- values rise -/
def Up (gs : List (Int × Nat)) : Prop := (gs.map (·.1)).Pairwise (· < ·)
theorem rl_up : ∀ l : List Int, l.Pairwise (· ≤ ·) → Up (rl l) := snoc_ind (fun _ => List.Pairwise.nil) fun l x ih hp => by
  have hp' := List.pairwise_append.mp hp
  have u := ih hp'.1
  have hx : ∀ y ∈ l, y ≤ x := fun y hy => hp'.2.2 y hy x (List.mem_singleton.mpr rfl)
  rw [rl_snoc]
  unfold rlS
  split
  · rename_i g hg
    have e := drop_last_eq hg
    split
    · rename_i h
      unfold Up at u ⊢
      rw [e, List.map_append] at u
      rw [List.map_append]
      exact u
    · rename_i h
      unfold Up at u ⊢
      rw [List.map_append]
      refine List.pairwise_append.mpr ⟨u, List.pairwise_singleton _ _, fun a ha b hb => ?_⟩
      have hb' : b = x := by simpa using hb
      subst hb'
      have hgx : g.1 < b := by
        have := hx g.1 (rl_val l g (by rw [e]; exact List.mem_append_right _ (List.mem_singleton.mpr rfl)))
        omega
      rw [e, List.map_append] at ha u
      rcases List.mem_append.mp ha with ha | ha
      · have := (List.pairwise_append.mp u).2.2 a ha g.1 (by simp)
        omega
      · have : a = g.1 := by simpa using ha
        omega
  · exact List.pairwise_singleton _ _
theorem flat_at {gs : List (Int × Nat)} {j : Nat} {g : Int × Nat} (h : gs[j]? = some g) : flat gs = flat (gs.take j) ++ (List.replicate g.2 g.1 ++ flat (gs.drop (j + 1))) := by
  have hj := (List.getElem?_eq_some_iff.mp h).1
  have e : gs = gs.take j ++ (g :: gs.drop (j + 1)) := by
    have e1 : gs.drop j = g :: gs.drop (j + 1) := by
      rw [List.drop_eq_getElem_cons hj, (List.getElem?_eq_some_iff.mp h).2]
    rw [← e1, List.take_append_drop]
  conv => lhs; rw [e]
  rw [flat_app]
  rfl
theorem flat_take_succ {gs : List (Int × Nat)} {j : Nat} {g : Int × Nat} (h : gs[j]? = some g) : flat (gs.take (j + 1)) = flat (gs.take j) ++ List.replicate g.2 g.1 := by
  rw [List.take_add_one, h]
  show flat (gs.take j ++ [g]) = _
  rw [flat_app]
  exact congrArg _ (flat_one _ _)
/-- what is ahead of a group is lower -/
theorem flat_low {gs : List (Int × Nat)} (u : Up gs) {j : Nat} {g : Int × Nat} (h : gs[j]? = some g) : ∀ t ∈ flat (gs.take j), t < g.1 := fun t ht => by
  obtain ⟨g', hg', ht'⟩ := List.mem_flatMap.mp ht
  rw [(List.mem_replicate.mp ht').2]
  have hj := (List.getElem?_eq_some_iff.mp h).1
  obtain ⟨i, hi, e⟩ := List.getElem_of_mem hg'
  have hij : i < j := by rw [List.length_take] at hi; omega
  have u' := List.pairwise_iff_getElem.mp u i j (by rw [List.length_map]; omega) (by rw [List.length_map]; omega) hij
  rw [List.getElem_map, List.getElem_map] at u'
  rw [List.getElem_take] at e
  rw [e, (List.getElem?_eq_some_iff.mp h).2] at u'
  exact u'
/-! ### possible tops by groups -/
theorem Poss.sorted {n : Nat} {ts : List Int} (hn : 1 ≤ n) (h : Poss n ts) : ts.Pairwise (· ≤ ·) := by
  refine List.pairwise_iff_getElem.mpr fun i j hi hj hij => ?_
  have := ok_le (n := n) (ts := ts) (m := ts.length - 1) (a := i) (b := j) hn (fun k hk => h k (by omega)) (by omega) (by omega)
  rw [List.getD_eq_getElem?_getD, List.getD_eq_getElem?_getD, List.getElem?_eq_getElem hi, List.getElem?_eq_getElem hj] at this
  exact this
theorem Poss.zero {n : Nat} {ts : List Int} (h : Poss n ts) {i : Nat} (hi : i < n) (hl : i < ts.length) : ts.getD i 0 = 0 := by
  have q := h i hl
  unfold okAt at q
  rw [if_pos hi] at q
  exact of_decide_eq_true q
theorem Poss.above {n : Nat} {ts : List Int} (hn : 1 ≤ n) (h : Poss n ts) {i : Nat} (hi : n ≤ i) (hl : i < ts.length) : 0 < ts.getD i 0 := by
  have q := h i hl
  unfold okAt at q
  rw [if_neg (by omega)] at q
  have q2 := of_decide_eq_true (Bool.and_eq_true_iff.mp q).2
  have z := h.zero (i := 0) (by omega) (by omega)
  have := ok_le (n := n) (ts := ts) (m := ts.length - 1) (a := 0) (b := i - n) hn (fun k hk => h k (by omega)) (by omega) (by omega)
  omega
theorem Poss.take0 {n : Nat} {ts : List Int} (h : Poss n ts) : ts.take n = List.replicate (min n ts.length) 0 := by
  refine List.ext_getElem? fun i => ?_
  by_cases hi : i < min n ts.length
  · rw [List.getElem?_take_of_lt (by omega), List.getElem?_replicate, if_pos hi, get_of_getD (by omega), h.zero (by omega) (by omega)]
  · rw [List.getElem?_eq_none (by rw [List.length_take]; omega), List.getElem?_eq_none (by rw [List.length_replicate]; omega)]
def grps (n : Nat) (ts : List Int) : List (Int × Nat) := rl (ts.drop n)
theorem Poss.up {n : Nat} {ts : List Int} (hn : 1 ≤ n) (h : Poss n ts) : Up (grps n ts) := rl_up _ ((h.sorted hn).sublist (List.drop_sublist ..))
theorem Poss.flat {n : Nat} {ts : List Int} : ts = ts.take n ++ flat (grps n ts) := by
  unfold grps
  rw [flat_rl, List.take_append_drop]
/-- no group has more tops than there are columns -/
theorem Poss.most {n : Nat} {ts : List Int} (hn : 1 ≤ n) (h : Poss n ts) : ∀ g ∈ grps n ts, g.2 ≤ n := fun g hg => by
  obtain ⟨j, hj, e⟩ := List.getElem_of_mem hg
  have hg' : (grps n ts)[j]? = some g := by rw [List.getElem?_eq_getElem hj, e]
  have e1 := flat_at hg'
  have ef : Lc.flat (grps n ts) = ts.drop n := flat_rl _
  rw [ef] at e1
  refine Nat.le_of_not_lt fun hlt => ?_
  have key : ∀ k, k < g.2 → (ts.drop n)[(Lc.flat ((grps n ts).take j)).length + k]? = some g.1 := fun k hk => by
    rw [e1, List.getElem?_append_right (by omega), Nat.add_sub_cancel_left, List.getElem?_append_left (by rw [List.length_replicate]; omega), List.getElem?_replicate, if_pos hk]
  generalize (Lc.flat ((grps n ts).take j)).length = p at key
  have a0 := key 0 (by omega)
  have an := key n hlt
  rw [List.getElem?_drop] at a0 an
  have hl := (List.getElem?_eq_some_iff.mp an).1
  have q := h _ hl
  unfold okAt at q
  rw [if_neg (by omega)] at q
  have q2 := of_decide_eq_true (Bool.and_eq_true_iff.mp q).2
  rw [getD_of an, show n + (p + n) - n = n + (p + 0) by omega, getD_of a0] at q2
  omega
/-! ### ways -/
structure IsWay (n : Nat) (ts ws : List Int) : Prop where
  len : ws.length = ts.length
  head : ws.take n = (List.range (min n ts.length)).map fun k => ((k : Nat) : Int)
  all : ∀ w ∈ ws, 0 ≤ w ∧ w < n
  asc : ∀ i, n ≤ i → i < ts.length → ts.getD (i - 1) 0 < ts.getD i 0 ∨ ws.getD (i - 1) 0 < ws.getD i 0
theorem way_few {n m : Nat} (h : m ≤ n) : IsWay n (List.replicate m 0) ((List.range m).map fun k => ((k : Nat) : Int)) := by
  refine ⟨by rw [List.length_map, List.length_range, List.length_replicate], ?_, fun w hw => ?_, fun i h1 h2 => ?_⟩
  · rw [List.length_replicate, Nat.min_eq_right h, List.take_of_length_le (by rw [List.length_map, List.length_range]; exact h)]
  · obtain ⟨k, hk, rfl⟩ := List.mem_map.mp hw
    have := List.mem_range.mp hk
    omega
  · rw [List.length_replicate] at h2; omega
/-- a group more -/
theorem way_group {n s : Nat} {ts ws cs : List Int} {v : Int} (hn : 1 ≤ n) (h : IsWay n ts ws) (hl : n ≤ ts.length) (hv : ∀ t ∈ ts, t < v) (hc : cs.length = s) (hr : ∀ c ∈ cs, 0 ≤ c ∧ c < n) (ha : cs.Pairwise (· < ·)) : IsWay n (ts ++ List.replicate s v) (ws ++ cs) := by
  have hlw := h.len
  refine ⟨by rw [List.length_append, List.length_append, List.length_replicate, hc, hlw], ?_, fun w hw => ?_, fun i h1 h2 => ?_⟩
  · rw [List.take_append_of_le_length (by omega), h.head, List.length_append, Nat.min_eq_left hl, Nat.min_eq_left (by omega)]
  · rcases List.mem_append.mp hw with hw | hw
    · exact h.all w hw
    · exact hr w hw
  · rw [List.length_append, List.length_replicate] at h2
    by_cases hi : i < ts.length
    · rw [getD_append_left hi, getD_append_left (show i - 1 < ts.length by omega), getD_append_left (show i < ws.length by omega), getD_append_left (show i - 1 < ws.length by omega)]
      exact h.asc i h1 hi
    · rw [getD_rep (by omega) h2]
      by_cases hp : i - 1 < ts.length
      · left
        rw [getD_append_left hp]
        exact hv _ (getD_mem hp)
      · right
        have e : ∀ k, ts.length ≤ k → k < ts.length + s → (ws ++ cs).getD k 0 = cs.getD (k - ts.length) 0 := fun k hk hk2 => by
          rw [List.getD_eq_getElem?_getD, List.getD_eq_getElem?_getD, List.getElem?_append_right (by omega), hlw]
        rw [e _ (by omega) (by omega), e _ (by omega) h2]
        have := List.pairwise_iff_getElem.mp ha (i - 1 - ts.length) (i - ts.length) (by omega) (by omega) (by omega)
        rw [List.getD_eq_getElem?_getD, List.getD_eq_getElem?_getD, List.getElem?_eq_getElem (by omega), List.getElem?_eq_getElem (by omega)]
        exact this
/-! ### the heights of the cards of a way -/
def nx (B : Int) (c : Int) : List (Int × Int) → Int
  | [] => B
  | p :: r => if p.1 = c then p.2 else nx B c r
/-- the item at i -/
def hwy (B : Int) (ts ws : List Int) (i : Nat) : Int := nx B (ws.getD i 0) ((ws.zip ts).drop (i + 1)) - ts.getD i 0
theorem zip_drop {ts ws : List Int} {i : Nat} (h : i < ts.length) (hl : ws.length = ts.length) : (ws.zip ts).drop i = (ws.getD i 0, ts.getD i 0) :: (ws.zip ts).drop (i + 1) := by
  have hz : i < (ws.zip ts).length := by rw [List.length_zip]; omega
  rw [List.drop_eq_getElem_cons hz, List.getElem_zip]
  rw [List.getD_eq_getElem?_getD, List.getD_eq_getElem?_getD, List.getElem?_eq_getElem (by omega), List.getElem?_eq_getElem h]
  rfl
theorem nx_filter (B c : Int) : ∀ ps : List (Int × Int), nx B c ps = (((ps.filter fun p => decide (p.1 = c)).map (·.2)) ++ [B]).headD 0
  | [] => rfl
  | p :: r => by
    unfold nx
    by_cases h : p.1 = c
    · rw [if_pos h, List.filter_cons, if_pos (decide_eq_true h)]; rfl
    · rw [if_neg h, List.filter_cons, if_neg (by simpa using h)]
      exact nx_filter B c r
end Lc

namespace Lc
def hsI (L i : Nat) (v : Nat → Int) : List Int := (List.range L).map fun k => if k < L - i then 0 else v k
theorem hsI_len (L i : Nat) (v : Nat → Int) : (hsI L i v).length = L := by unfold hsI; rw [List.length_map, List.length_range]
theorem hsI_zero (L : Nat) (v : Nat → Int) : hsI L 0 v = List.replicate L 0 := by
  refine List.ext_getElem? fun k => ?_
  unfold hsI
  by_cases h : k < L
  · rw [List.getElem?_map, List.getElem?_range h, List.getElem?_replicate, if_pos h]
    show some (if k < L - 0 then (0 : Int) else v k) = _
    rw [if_pos (by omega)]
  · rw [List.getElem?_eq_none (by rw [List.length_map, List.length_range]; omega), List.getElem?_eq_none (by rw [List.length_replicate]; omega)]
theorem hsI_all (L : Nat) (v : Nat → Int) : hsI L L v = (List.range L).map v := by
  unfold hsI
  refine List.map_congr_left fun k hk => ?_
  rw [if_neg (by omega)]
theorem hsI_set {L i : Nat} (v : Nat → Int) (h : i < L) : (hsI L i v).set (L - 1 - i) (v (L - 1 - i)) = hsI L (i + 1) v := by
  refine List.ext_getElem? fun k => ?_
  rw [List.getElem?_set]
  unfold hsI
  by_cases hk : k < L
  · by_cases e : L - 1 - i = k
    · rw [if_pos e, if_pos (by rw [List.length_map, List.length_range]; omega), List.getElem?_map, List.getElem?_range hk]
      show _ = some (if k < L - (i + 1) then (0 : Int) else v k)
      rw [if_neg (by omega), e]
    · rw [if_neg e, List.getElem?_map, List.getElem?_range hk, List.getElem?_map, List.getElem?_range hk]
      show some (if k < L - i then (0 : Int) else v k) = some (if k < L - (i + 1) then (0 : Int) else v k)
      by_cases q : k < L - i
      · rw [if_pos q, if_pos (by omega)]
      · rw [if_neg q, if_neg (by omega)]
  · rw [if_neg (by omega), List.getElem?_eq_none (by rw [List.length_map, List.length_range]; omega), List.getElem?_eq_none (by rw [List.length_map, List.length_range]; omega)]
def btI (B : Int) (n : Nat) (ps : List (Int × Int)) : List Int := (List.range n).map fun c => nx B ((c : Nat) : Int) ps
theorem btI_len (B : Int) (n : Nat) (ps : List (Int × Int)) : (btI B n ps).length = n := by unfold btI; rw [List.length_map, List.length_range]
theorem btI_get {B : Int} {n : Nat} {ps : List (Int × Int)} {c : Nat} (h : c < n) : (btI B n ps)[c]? = some (nx B ((c : Nat) : Int) ps) := by
  unfold btI
  rw [List.getElem?_map, List.getElem?_range h]; rfl
theorem btI_nil (B : Int) (n : Nat) : btI B n [] = List.replicate n B := by
  refine List.ext_getElem? fun k => ?_
  by_cases h : k < n
  · rw [btI_get h, List.getElem?_replicate, if_pos h]; rfl
  · rw [List.getElem?_eq_none (by rw [btI_len]; omega), List.getElem?_eq_none (by rw [List.length_replicate]; omega)]
theorem btI_cons {B t : Int} {n c : Nat} (h : c < n) (ps : List (Int × Int)) : btI B n ((((c : Nat) : Int), t) :: ps) = (btI B n ps).set c t := by
  refine List.ext_getElem? fun k => ?_
  rw [List.getElem?_set]
  by_cases hk : k < n
  · by_cases e : c = k
    · subst e
      rw [if_pos rfl, if_pos (by rw [btI_len]; exact h), btI_get h]
      show some (if ((c : Nat) : Int) = ((c : Nat) : Int) then t else _) = _
      rw [if_pos rfl]
    · rw [if_neg e, btI_get hk, btI_get hk]
      show some (if ((c : Nat) : Int) = ((k : Nat) : Int) then t else _) = _
      rw [if_neg (by omega)]
  · rw [if_neg (by omega), List.getElem?_eq_none (by rw [btI_len]; omega), List.getElem?_eq_none (by rw [btI_len]; omega)]
/-- the heights of the cards of a way: B ends the last ones -/
def cow (B : Int) (ts ws : List Int) : List Int := (List.range ts.length).map (hwy B ts ws)
theorem cow_len (B : Int) (ts ws : List Int) : (cow B ts ws).length = ts.length := by unfold cow; rw [List.length_map, List.length_range]
theorem nodup_range (m : Nat) : ((List.range m).map fun k => ((k : Nat) : Int)).Nodup := by
  refine List.Pairwise.map _ (fun a b h => ?_) (List.nodup_range (n := m))
  show ((a : Nat) : Int) ≠ ((b : Nat) : Int)
  omega
theorem up_of {cs : List Int} (s : cs.Pairwise (· ≤ ·)) (d : cs.Nodup) : cs.Pairwise (· < ·) := by
  refine List.pairwise_iff_getElem.mpr fun i j hi hj hij => ?_
  have a := List.pairwise_iff_getElem.mp s i j hi hj hij
  have b := List.pairwise_iff_getElem.mp d i j hi hj hij
  omega
theorem nx_in {B c lo hi : Int} (hB : lo ≤ B ∧ B ≤ hi) : ∀ ps : List (Int × Int), (∀ p ∈ ps, lo ≤ p.2 ∧ p.2 ≤ hi) → lo ≤ nx B c ps ∧ nx B c ps ≤ hi
  | [], _ => hB
  | p :: r, h => by
    unfold nx
    split
    · exact h p List.mem_cons_self
    · exact nx_in hB r fun x hx => h x (List.mem_cons_of_mem _ hx)
theorem cow_in {B lo hi : Int} {ts ws : List Int} (hB : lo ≤ B ∧ B ≤ hi) (h : ∀ t ∈ ts, lo ≤ t ∧ t ≤ hi) : ∀ c ∈ cow B ts ws, lo - hi ≤ c ∧ c ≤ hi - lo := fun c hc => by
  obtain ⟨i, hi', rfl⟩ := List.mem_map.mp hc
  have hil := List.mem_range.mp hi'
  unfold hwy
  have h1 := nx_in (c := ws.getD i 0) hB ((ws.zip ts).drop (i + 1)) fun p hp => h _ (List.of_mem_zip (List.mem_of_mem_drop hp : (p.1, p.2) ∈ ws.zip ts)).2
  have h2 := h _ (Lc.getD_mem hil)
  omega
end Lc
namespace Lc
open PySem PySem.Spec PyProof.Rows L2
theorem atI_lastD {ts : List Int} (hl : 0 < ts.length) : atI (ts.map V.int) (-1) = some (.int (ts.getD (ts.length - 1) 0)) := by
  have hne : ts ≠ [] := fun e => by rw [e] at hl; simp at hl
  have e := (List.dropLast_concat_getLast hne).symm
  have e2 : ts.getLast hne = ts.getD (ts.length - 1) 0 := by
    rw [List.getLast_eq_getElem, List.getD_eq_getElem?_getD, List.getElem?_eq_getElem (by omega)]; rfl
  rw [← e2]
  conv => lhs; rw [e, List.map_append]
  exact atI_last _ _
end Lc

namespace PySem.W
open PySem PySem.Calls
namespace MGC
theorem entry_comb : entryFor table "math.comb" = some Builtin.«math.comb» := entryFor_of_tree (by kernel_rfl)
theorem kind_comb : builtinKind "math.comb" = none := by kernel_rfl
theorem plain_comb : plainId "math.comb" = true := by decide +kernel
theorem args_comb (a b : Value) : argsOk "math.comb" ⟨[a, b], []⟩ := by unfold argsOk; kernel_rfl
end MGC
theorem mg_run_comb (a : Int) (t : Tok) (b : Int) (u : Tok) (hc0 : ¬ a < 0) (hc1 : ¬ b < 0) (hc2 : ¬ b > a) (hc3 : ¬ min b (a - b) > Builtin.Math.maxSsize) (hc4 : ¬ min b (a - b) > Builtin.Math.manyFactors) (hc5 : ¬ min b (a - b) > 9000)
    (hsz : (Builtin.Math.fallingProduct a (min b (a - b)).toNat / Builtin.Math.fallingProduct (min b (a - b)) (min b (a - b)).toNat).natAbs.log2 < bitsLine) :
    Gives (Builtin.«math.comb» ⟨[.int a t, .int b u], []⟩) (.int (Builtin.Math.fallingProduct a (min b (a - b)).toNat / Builtin.Math.fallingProduct (min b (a - b)) (min b (a - b)).toNat)) :=
  .of_wp fun M A E s Q h => by obtain ⟨hp, g, d, tk, os⟩ := s; wp_walk; (try (refine wpAny_ite_false (decide_eq_false (Nat.not_le.mpr hsz)) ?_; wp_walk)); exact ⟨_, rfl, h⟩
end PySem.W
namespace Lc
open PySem PySem.Spec PyProof.Rows L2
/-- the number of sets of k of n things -/
def bin : Nat → Nat → Nat
  | _, 0 => 1
  | 0, _ + 1 => 0
  | n + 1, k + 1 => bin n k + bin n (k + 1)
theorem comb_bin : ∀ a, a < 31 → ∀ b, b < a + 1 → (Builtin.Math.fallingProduct ((a : Nat) : Int) (min ((b : Nat) : Int) (((a : Nat) : Int) - ((b : Nat) : Int))).toNat / Builtin.Math.fallingProduct (min ((b : Nat) : Int) (((a : Nat) : Int) - ((b : Nat) : Int))) (min ((b : Nat) : Int) (((a : Nat) : Int) - ((b : Nat) : Int))).toNat) = ((bin a b : Nat) : Int) := by decide +kernel
theorem bin_small : ∀ a, a < 31 → ∀ b, b < a + 1 → bin a b < 1000000000 := by decide +kernel
def rComb : List V → Hp → VK → Prop := fun vs H Q => ∃ a b : Nat, vs = [.int (a : Nat), .int (b : Nat)] ∧ b ≤ a ∧ a ≤ 30 ∧ Q (.int ((bin a b : Nat) : Int)) H
theorem cr_comb {X : Cx} : CallR X (.builtin "math.comb") rComb := by
  intro pins s σ H vs us Q I r h
  obtain ⟨a, b, rfl, hb, ha, q⟩ := h
  obtain ⟨t, u, rfl⟩ := Vals.int2 r
  have e := comb_bin a (by omega) b (by omega)
  have sm := bin_small a (by omega) b (by omega)
  have hsz : (Builtin.Math.fallingProduct ((a : Nat) : Int) (min ((b : Nat) : Int) (((a : Nat) : Int) - ((b : Nat) : Int))).toNat / Builtin.Math.fallingProduct (min ((b : Nat) : Int) (((a : Nat) : Int) - ((b : Nat) : Int))) (min ((b : Nat) : Int) (((a : Nat) : Int) - ((b : Nat) : Int))).toNat).natAbs.log2 < bitsLine := by
    rw [e]
    refine Nat.lt_trans (PySem.Flt.log2_lt_of (k := 40) (by decide) ?_) (by decide +kernel)
    rw [Int.natAbs_natCast]
    exact Nat.lt_trans sm (by decide)
  have g := PySem.W.mg_run_comb ((a : Nat) : Int) t ((b : Nat) : Int) u (by omega) (by omega) (by omega) (by unfold Builtin.Math.maxSsize; omega) (by unfold Builtin.Math.manyFactors; omega) (by omega) hsz
  rw [e] at g
  exact PySem.call_function_meets PySem.W.MGC.kind_comb PySem.W.MGC.plain_comb PySem.W.MGC.entry_comb (PySem.W.MGC.args_comb _ _) g.meets ⟨.int _, H, I.tok _, ⟨_, rfl⟩, q⟩
end Lc

namespace Lc
/-! ### sets of columns by their index -/
theorem bin_zero (n : Nat) : bin n 0 = 1 := by cases n <;> rfl
theorem bin_succ (n k : Nat) : bin (n + 1) (k + 1) = bin n k + bin n (k + 1) := rfl
theorem bin_le : ∀ n k, n < k → bin n k = 0
  | 0, 0, h => absurd h (by omega)
  | 0, k + 1, _ => rfl
  | n + 1, 0, h => absurd h (by omega)
  | n + 1, k + 1, h => by rw [bin_succ, bin_le n k (by omega), bin_le n (k + 1) (by omega)]
theorem bin_self : ∀ n, bin n n = 1
  | 0 => rfl
  | n + 1 => by rw [bin_succ, bin_self n, bin_le n (n + 1) (by omega)]
theorem bin_one : ∀ n, bin n 1 = n
  | 0 => rfl
  | n + 1 => by rw [bin_succ, bin_zero, bin_one n]; omega
theorem bin_pos : ∀ n k, k ≤ n → 1 ≤ bin n k
  | n, 0, _ => by rw [bin_zero]; exact Nat.le_refl 1
  | 0, k + 1, h => absurd h (by omega)
  | n + 1, k + 1, h => by rw [bin_succ]; have := bin_pos n k (by omega); omega
/-- the set of k of the columns c, .., c + m - 1 with the index r -/
def ns : Nat → Int → Nat → Nat → List Int
  | _, _, 0, _ => []
  | 0, _, _ + 1, _ => []
  | m + 1, c, k + 1, r => if r < bin m k then c :: ns m (c + 1) k r else ns m (c + 1) (k + 1) (r - bin m k)
/-- the index of a set -/
def rs : Nat → Int → List Int → Nat
  | _, _, [] => 0
  | 0, _, _ :: _ => 0
  | m + 1, c, x :: xs => if c = x then rs m (c + 1) xs else bin m xs.length + rs m (c + 1) (x :: xs)
theorem ns_zero (m : Nat) (c : Int) (r : Nat) : ns m c 0 r = [] := by cases m <;> rfl
theorem ns_succ (m : Nat) (c : Int) (k r : Nat) : ns (m + 1) c (k + 1) r = if r < bin m k then c :: ns m (c + 1) k r else ns m (c + 1) (k + 1) (r - bin m k) := rfl
theorem rs_nil (m : Nat) (c : Int) : rs m c [] = 0 := by cases m <;> rfl
theorem rs_cons (m : Nat) (c x : Int) (xs : List Int) : rs (m + 1) c (x :: xs) = if c = x then rs m (c + 1) xs else bin m xs.length + rs m (c + 1) (x :: xs) := rfl
abbrev Asc (l : List Int) : Prop := l.Pairwise (· < ·)
structure IsSet (m : Nat) (c : Int) (k : Nat) (cs : List Int) : Prop where
  len : cs.length = k
  asc : Asc cs
  all : ∀ x ∈ cs, c ≤ x ∧ x < c + m
theorem IsSet.more {m k : Nat} {c : Int} {cs : List Int} (h : IsSet m (c + 1) k cs) : IsSet (m + 1) c k cs := ⟨h.len, h.asc, fun x hx => by have := h.all x hx; omega⟩
theorem IsSet.cons {m k : Nat} {c : Int} {cs : List Int} (h : IsSet m (c + 1) k cs) : IsSet (m + 1) c (k + 1) (c :: cs) := by
  refine ⟨by rw [List.length_cons, h.len], List.pairwise_cons.mpr ⟨fun x hx => ?_, h.asc⟩, fun x hx => ?_⟩
  · have := h.all x hx; omega
  · rcases List.mem_cons.mp hx with rfl | hx
    · omega
    · have := h.all x hx; omega
theorem ns_spec : ∀ (m k : Nat) (c : Int) (r : Nat), r < bin m k → IsSet m c k (ns m c k r) ∧ rs m c (ns m c k r) = r
  | m, 0, c, r, h => by
    rw [ns_zero]
    rw [bin_zero] at h
    exact ⟨⟨rfl, List.Pairwise.nil, fun x hx => by cases hx⟩, by rw [rs_nil]; omega⟩
  | 0, k + 1, c, r, h => by rw [bin_le 0 (k + 1) (by omega)] at h; omega
  | m + 1, k + 1, c, r, h => by
    rw [ns_succ]
    rw [bin_succ] at h
    by_cases hr : r < bin m k
    · rw [if_pos hr]
      obtain ⟨a, b⟩ := ns_spec m k (c + 1) r hr
      exact ⟨a.cons, by rw [rs_cons, if_pos rfl, b]⟩
    · rw [if_neg hr]
      obtain ⟨a, b⟩ := ns_spec m (k + 1) (c + 1) (r - bin m k) (by omega)
      refine ⟨a.more, ?_⟩
      generalize ns m (c + 1) (k + 1) (r - bin m k) = l at a b
      cases l with
      | nil => have := a.len; simp at this
      | cons x xs =>
        have hx := a.all x List.mem_cons_self
        have hl : xs.length = k := by have := a.len; rw [List.length_cons] at this; omega
        rw [rs_cons, if_neg (by omega), b, hl]
        omega
theorem IsSet.tail {m k : Nat} {c : Int} {cs : List Int} (h : IsSet (m + 1) c (k + 1) (c :: cs)) : IsSet m (c + 1) k cs := by
  have p := List.pairwise_cons.mp h.asc
  refine ⟨by have := h.len; rw [List.length_cons] at this; omega, p.2, fun x hx => ?_⟩
  have := p.1 x hx
  have := h.all x (List.mem_cons_of_mem _ hx)
  omega
theorem IsSet.rest {m k : Nat} {c x : Int} {cs : List Int} (h : IsSet (m + 1) c k (x :: cs)) (hx : c ≠ x) : IsSet m (c + 1) k (x :: cs) := by
  have p := List.pairwise_cons.mp h.asc
  have h0 := h.all x List.mem_cons_self
  refine ⟨h.len, h.asc, fun y hy => ?_⟩
  have h1 := h.all y hy
  rcases List.mem_cons.mp hy with rfl | hy
  · omega
  · have := p.1 y hy
    omega
theorem rs_spec : ∀ (m : Nat) (cs : List Int) (c : Int) (k : Nat), IsSet m c k cs → rs m c cs < bin m k ∧ ns m c k (rs m c cs) = cs
  | m, [], c, k, h => by
    have hk : k = 0 := h.len.symm
    subst hk
    rw [rs_nil, bin_zero, ns_zero]
    exact ⟨by omega, rfl⟩
  | 0, x :: xs, c, k, h => by have := h.all x List.mem_cons_self; omega
  | m + 1, x :: xs, c, k, h => by
    obtain ⟨k, rfl⟩ : ∃ j, k = j + 1 := ⟨k - 1, by have := h.len; rw [List.length_cons] at this; omega⟩
    rw [rs_cons]
    by_cases hc : c = x
    · subst hc
      rw [if_pos rfl]
      obtain ⟨a, b⟩ := rs_spec m xs (c + 1) k h.tail
      rw [bin_succ, ns_succ, if_pos a, b]
      exact ⟨by omega, rfl⟩
    · rw [if_neg hc]
      obtain ⟨a, b⟩ := rs_spec m (x :: xs) (c + 1) (k + 1) (h.rest hc)
      have hl : xs.length = k := by have := h.len; rw [List.length_cons] at this; omega
      rw [hl, bin_succ, ns_succ, if_neg (by omega), Nat.add_sub_cancel_left, b]
      exact ⟨by omega, rfl⟩
/-! ### ways of several groups -/
def cntW (n : Nat) (szs : List Nat) : Nat := szs.foldl (fun a s => a * bin n s) 1
theorem cntW_snoc (n : Nat) (szs : List Nat) (s : Nat) : cntW n (szs ++ [s]) = cntW n szs * bin n s := by unfold cntW; rw [List.foldl_append]; rfl
/-- the sets, by the groups -/
def wnR (n : Nat) : List Nat → Nat → List Int
  | [], _ => []
  | s :: rs, r => wnR n rs (r / bin n s) ++ ns n 0 s (r % bin n s)
/-- the columns of the way with the index r, behind the first ones -/
def wn (n : Nat) (szs : List Nat) (r : Nat) : List Int := wnR n szs.reverse r
theorem wn_snoc (n : Nat) (szs : List Nat) (s r : Nat) : wn n (szs ++ [s]) r = wn n szs (r / bin n s) ++ ns n 0 s (r % bin n s) := by
  unfold wn
  rw [List.reverse_append]; rfl
theorem wn_nil (n r : Nat) : wn n [] r = [] := rfl
/-- the index of what stands in l, by groups -/
def wr (n : Nat) (l : List Int) (szs : List Nat) : Nat × Nat := szs.foldl (fun p s => (p.1 * bin n s + rs n 0 ((l.drop p.2).take s), p.2 + s)) (0, 0)
theorem wr_snoc (n : Nat) (l : List Int) (szs : List Nat) (s : Nat) : wr n l (szs ++ [s]) = ((wr n l szs).1 * bin n s + rs n 0 ((l.drop (wr n l szs).2).take s), (wr n l szs).2 + s) := by
  unfold wr
  rw [List.foldl_append]; rfl
theorem wr_at (n : Nat) (l : List Int) : ∀ szs : List Nat, (wr n l szs).2 = szs.sum := by
  have : ∀ (szs : List Nat) (p : Nat × Nat), (szs.foldl (fun p s => (p.1 * bin n s + rs n 0 ((l.drop p.2).take s), p.2 + s)) p).2 = p.2 + szs.sum := fun szs => by
    induction szs with
    | nil => intro p; simp
    | cons s szs ih =>
      intro p
      rw [List.foldl_cons, ih, List.sum_cons]
      show p.2 + s + szs.sum = p.2 + (s + szs.sum)
      omega
  intro szs
  have := this szs (0, 0)
  unfold wr
  rw [this]; omega
/-- l is made of sets of these sizes -/
def IsSets (n : Nat) (l : List Int) : List Nat → Prop
  | [] => l = []
  | s :: szs => ∃ a b, l = a ++ b ∧ IsSet n 0 s a ∧ IsSets n b szs
theorem isSets_len {n : Nat} : ∀ {szs : List Nat} {l : List Int}, IsSets n l szs → l.length = szs.sum
  | [], l, h => by rw [show l = [] from h]; rfl
  | s :: szs, l, ⟨a, b, e, ha, hb⟩ => by rw [e, List.length_append, ha.len, isSets_len hb, List.sum_cons]
theorem isSets_snoc {n : Nat} : ∀ {szs : List Nat} {l c : List Int} {s : Nat}, IsSets n l szs → IsSet n 0 s c → IsSets n (l ++ c) (szs ++ [s])
  | [], l, c, s, h, hc => by
    rw [show l = [] from h]
    exact ⟨c, [], by simp, hc, rfl⟩
  | t :: szs, l, c, s, ⟨a, b, e, ha, hb⟩, hc => ⟨a, b ++ c, by rw [e, List.append_assoc], ha, isSets_snoc hb hc⟩
theorem isSets_unsnoc {n : Nat} : ∀ {szs : List Nat} {l : List Int} {s : Nat}, IsSets n l (szs ++ [s]) → ∃ a c, l = a ++ c ∧ IsSets n a szs ∧ IsSet n 0 s c
  | [], l, s, ⟨a, b, e, ha, hb⟩ => ⟨[], a, by rw [e, show b = [] from hb, List.append_nil]; rfl, rfl, ha⟩
  | t :: szs, l, s, ⟨a, b, e, ha, hb⟩ => by
    obtain ⟨a', c, e', h1, h2⟩ := isSets_unsnoc hb
    exact ⟨a ++ a', c, by rw [e, e', List.append_assoc], ⟨a, a', rfl, ha, h1⟩, h2⟩
theorem snocN_ind {P : List Nat → Prop} (h0 : P []) (h1 : ∀ l x, P l → P (l ++ [x])) : ∀ l, P l := by
  intro l
  have h : ∀ k, k ≤ l.length → P (l.take k) := fun k => by
    induction k with
    | zero => intro _; exact h0
    | succ k ih =>
      intro hk
      have e : l.take (k + 1) = l.take k ++ [l[k]] := by rw [List.take_add_one, List.getElem?_eq_getElem (by omega)]; rfl
      rw [e]
      exact h1 _ _ (ih (by omega))
  have := h l.length (Nat.le_refl _)
  rwa [List.take_length] at this
/-- what stands behind does not count -/
theorem wr_app (n : Nat) (l c : List Int) : ∀ szs : List Nat, szs.sum ≤ l.length → wr n (l ++ c) szs = wr n l szs := snocN_ind (fun _ => rfl) fun szs s ih h => by
  rw [List.sum_append] at h
  simp only [List.sum_cons, List.sum_nil] at h
  have e := ih (by omega)
  rw [wr_snoc, wr_snoc, e, wr_at]
  rw [List.drop_append_of_le_length (by omega), List.take_append_of_le_length (by rw [List.length_drop]; omega)]
theorem wn_spec (n : Nat) : ∀ (szs : List Nat) (r : Nat), r < cntW n szs → IsSets n (wn n szs r) szs ∧ (wr n (wn n szs r) szs).1 = r := snocN_ind (fun r h => by
    have : r = 0 := by unfold cntW at h; simp at h; omega
    subst this
    exact ⟨rfl, rfl⟩) fun szs s ih r h => by
  rw [cntW_snoc] at h
  have hb : 0 < bin n s := Nat.pos_of_ne_zero fun e => by rw [e, Nat.mul_zero] at h; omega
  obtain ⟨a, b⟩ := ih (r / bin n s) (Nat.div_lt_of_lt_mul (by rw [Nat.mul_comm]; exact h))
  obtain ⟨c, d⟩ := ns_spec n s 0 (r % bin n s) (Nat.mod_lt _ hb)
  rw [wn_snoc]
  refine ⟨isSets_snoc a c, ?_⟩
  rw [wr_snoc, wr_at, wr_app n _ _ szs (by rw [isSets_len a]; exact Nat.le_refl _), b]
  have hl := isSets_len a
  rw [List.drop_append_of_le_length (by omega), List.drop_of_length_le (by omega), List.nil_append, List.take_of_length_le (by rw [c.len]; exact Nat.le_refl _), d]
  have := Nat.div_add_mod r (bin n s)
  rw [Nat.mul_comm] at this
  exact this
theorem wr_spec (n : Nat) : ∀ (szs : List Nat) (l : List Int), IsSets n l szs → (wr n l szs).1 < cntW n szs ∧ wn n szs (wr n l szs).1 = l := snocN_ind (fun l h => by
    rw [show l = [] from h]
    exact ⟨Nat.zero_lt_one, rfl⟩) fun szs s ih l h => by
  obtain ⟨a, c, e, ha, hc⟩ := isSets_unsnoc h
  obtain ⟨h1, h2⟩ := ih a ha
  obtain ⟨h3, h4⟩ := rs_spec n c 0 s hc
  have hl := isSets_len ha
  subst e
  rw [wr_snoc, wr_at, wr_app n _ _ szs (by omega), List.drop_append_of_le_length (by omega), List.drop_of_length_le (by omega), List.nil_append, List.take_of_length_le (by rw [hc.len]; exact Nat.le_refl _)]
  show (wr n a szs).1 * bin n s + rs n 0 c < _ ∧ wn n (szs ++ [s]) ((wr n a szs).1 * bin n s + rs n 0 c) = _
  have hb : 0 < bin n s := by omega
  rw [cntW_snoc, wn_snoc]
  have e1 : ((wr n a szs).1 * bin n s + rs n 0 c) / bin n s = (wr n a szs).1 := by
    rw [Nat.mul_comm, Nat.mul_add_div hb, Nat.div_eq_of_lt h3]; omega
  have e2 : ((wr n a szs).1 * bin n s + rs n 0 c) % bin n s = rs n 0 c := by
    rw [Nat.mul_comm, Nat.mul_add_mod, Nat.mod_eq_of_lt h3]
  rw [e1, e2, h2, h4]
  refine ⟨?_, rfl⟩
  calc (wr n a szs).1 * bin n s + rs n 0 c < (wr n a szs).1 * bin n s + bin n s := by omega
    _ = ((wr n a szs).1 + 1) * bin n s := by rw [Nat.add_mul, Nat.one_mul]
    _ ≤ cntW n szs * bin n s := Nat.mul_le_mul_right _ h1
end Lc
namespace Lc
theorem pw_adj : ∀ {l : List Int}, (∀ i, i + 1 < l.length → l.getD i 0 < l.getD (i + 1) 0) → l.Pairwise (· < ·)
  | [], _ => List.Pairwise.nil
  | x :: l, h => by
    have ih := pw_adj (l := l) fun i hi => h (i + 1) (by rw [List.length_cons]; omega)
    refine List.pairwise_cons.mpr ⟨fun y hy => ?_, ih⟩
    cases l with
    | nil => cases hy
    | cons z zs =>
      have h0 := h 0 (by simp)
      have h0 : x < z := h0
      rcases List.mem_cons.mp hy with rfl | hy
      · exact h0
      · have := (List.pairwise_cons.mp ih).1 y hy
        omega
theorem getD_take' {l : List Int} {d i : Nat} (h : i < d) : (l.take d).getD i 0 = l.getD i 0 := getD_take h
theorem getD_drop {l : List Int} {d i : Nat} : (l.drop d).getD i 0 = l.getD (d + i) 0 := by
  rw [List.getD_eq_getElem?_getD, List.getD_eq_getElem?_getD, List.getElem?_drop]
theorem sets_of {n : Nat} : ∀ (gs : List (Int × Nat)) (l : List Int), l.length = (flat gs).length → (∀ x ∈ l, 0 ≤ x ∧ x < n) → (∀ i, i + 1 < l.length → (flat gs).getD i 0 < (flat gs).getD (i + 1) 0 ∨ l.getD i 0 < l.getD (i + 1) 0) → IsSets n l (gs.map (·.2))
  | [], l, hl, _, _ => List.length_eq_zero_iff.mp hl
  | g :: gs, l, hl, ha, hi => by
    have ef : flat (g :: gs) = List.replicate g.2 g.1 ++ flat gs := rfl
    have hll : l.length = g.2 + (flat gs).length := by rw [hl, ef, List.length_append, List.length_replicate]
    refine ⟨l.take g.2, l.drop g.2, (List.take_append_drop _ _).symm, ⟨by rw [List.length_take]; show min g.2 l.length = g.2; omega, pw_adj fun i h => ?_, fun x hx => ?_⟩, sets_of gs (l.drop g.2) (by rw [List.length_drop]; omega) (fun x hx => ha x (List.mem_of_mem_drop hx)) fun i h => ?_⟩
    · rw [List.length_take] at h
      rw [getD_take (by omega), getD_take (by omega)]
      refine (hi i (by omega)).resolve_left fun hlt => ?_
      have e : ∀ k, k < g.2 → (flat (g :: gs)).getD k 0 = g.1 := fun k hk => by
        rw [ef, List.getD_eq_getElem?_getD, List.getElem?_append_left (by rw [List.length_replicate]; exact hk), List.getElem?_replicate, if_pos hk]; rfl
      rw [e i (by omega), e (i + 1) (by omega)] at hlt
      omega
    · have := ha x (List.mem_of_mem_take hx)
      omega
    · rw [List.length_drop] at h
      have e : ∀ k, (flat (g :: gs)).getD (g.2 + k) 0 = (flat gs).getD k 0 := fun k => by
        rw [ef, List.getD_eq_getElem?_getD, List.getElem?_append_right (by rw [List.length_replicate]; omega), List.length_replicate, Nat.add_sub_cancel_left, List.getD_eq_getElem?_getD]
      have := hi (g.2 + i) (by omega)
      rw [e i, show g.2 + i + 1 = g.2 + (i + 1) by omega, e (i + 1)] at this
      rw [getD_drop, getD_drop]
      exact this
theorem way_sets {n : Nat} {ts ws : List Int} (hn : 1 ≤ n) (hw : IsWay n ts ws) : IsSets n (ws.drop n) ((grps n ts).map (·.2)) := by
  have hf : flat (grps n ts) = ts.drop n := by unfold grps; exact flat_rl _
  refine sets_of (grps n ts) (ws.drop n) (by rw [hf, List.length_drop, List.length_drop, hw.len]) (fun x hx => hw.all x (List.mem_of_mem_drop hx)) fun i hi => ?_
  rw [List.length_drop, hw.len] at hi
  rw [hf, getD_drop, getD_drop, getD_drop, getD_drop]
  have := hw.asc (n + (i + 1)) (by omega) (by omega)
  rw [show n + (i + 1) - 1 = n + i by omega] at this
  exact this
theorem sets_way {n : Nat} (hn : 1 ≤ n) : ∀ (gs : List (Int × Nat)) (ts ws l : List Int), IsWay n ts ws → n ≤ ts.length → Up gs → (∀ t ∈ ts, ∀ g ∈ gs, t < g.1) → IsSets n l (gs.map (·.2)) → IsWay n (ts ++ flat gs) (ws ++ l)
  | [], ts, ws, l, h, _, _, _, hs => by
    rw [show l = [] from hs, List.append_nil, show flat [] = [] from rfl, List.append_nil]
    exact h
  | g :: gs, ts, ws, l, h, hl, hu, hlow, ⟨a, b, e, ha, hb⟩ => by
    have hu' : Up gs := (List.pairwise_cons.mp hu).2
    have hg : ∀ g' ∈ gs, g.1 < g'.1 := fun g' hg' => (List.pairwise_cons.mp hu).1 g'.1 (List.mem_map_of_mem hg')
    have st := way_group (s := g.2) (v := g.1) (cs := a) hn h hl (fun t ht => hlow t ht g List.mem_cons_self) ha.len (fun c hc => by have := ha.all c hc; omega) ha.asc
    have ih := sets_way hn gs (ts ++ List.replicate g.2 g.1) (ws ++ a) b st (by rw [List.length_append]; omega) hu' (fun t ht g' hg' => by
      rcases List.mem_append.mp ht with ht | ht
      · exact hlow t ht g' (List.mem_cons_of_mem _ hg')
      · rw [(List.mem_replicate.mp ht).2]; exact hg g' hg') hb
    rw [e, show flat (g :: gs) = List.replicate g.2 g.1 ++ flat gs from rfl, ← List.append_assoc, ← List.append_assoc]
    exact ih
def rng (m : Nat) : List Int := (List.range m).map fun k => ((k : Nat) : Int)
/-- the way with an index -/
theorem way_of {n : Nat} {ts l : List Int} (hn : 1 ≤ n) (hp : Poss n ts) (hs : IsSets n l ((grps n ts).map (·.2))) : IsWay n ts (rng (min n ts.length) ++ l) := by
  by_cases hl : n ≤ ts.length
  · have ef : ts = ts.take n ++ flat (grps n ts) := Poss.flat
    have b : IsWay n (ts.take n) (rng (min n ts.length)) := by
      rw [hp.take0]
      exact way_few (by omega)
    have := sets_way hn (grps n ts) (ts.take n) (rng (min n ts.length)) l b (by rw [List.length_take]; omega) (hp.up hn) (fun t ht g hg => ?_) hs
    · rw [← ef] at this
      exact this
    · rw [hp.take0] at ht
      rw [(List.mem_replicate.mp ht).2]
      obtain ⟨k, hk, e⟩ := List.getElem_of_mem (rl_val _ g hg)
      rw [List.getElem_drop] at e
      rw [List.length_drop] at hk
      have := hp.above hn (i := n + k) (by omega) (by omega)
      rw [List.getD_eq_getElem?_getD, List.getElem?_eq_getElem (by omega), e] at this
      exact this
  · have e0 : grps n ts = [] := by
      unfold grps
      rw [List.drop_of_length_le (by omega)]; rfl
    rw [e0] at hs
    rw [show l = [] from hs, List.append_nil, Nat.min_eq_right (by omega)]
    have e1 : ts = List.replicate ts.length 0 := by
      have := hp.take0
      rw [List.take_of_length_le (by omega), Nat.min_eq_right (by omega)] at this
      exact this
    have := way_few (n := n) (m := ts.length) (by omega)
    rw [← e1] at this
    exact this
theorem IsWay.eq {n : Nat} {ts ws : List Int} (h : IsWay n ts ws) : ws = rng (min n ts.length) ++ ws.drop n := by
  conv => lhs; rw [← List.take_append_drop n ws, h.head]
  rfl
/-- the index of a way, the number of ways, the way with an index -/
def szs (n : Nat) (ts : List Int) : List Nat := (grps n ts).map (·.2)
def rankW (n : Nat) (ts ws : List Int) : Nat := (wr n (ws.drop n) (szs n ts)).1
def countW (n : Nat) (ts : List Int) : Nat := cntW n (szs n ts)
def nthW (n : Nat) (ts : List Int) (r : Nat) : List Int := rng (min n ts.length) ++ wn n (szs n ts) r
theorem rank_lt {n : Nat} {ts ws : List Int} (hn : 1 ≤ n) (hw : IsWay n ts ws) : rankW n ts ws < countW n ts := (wr_spec n _ _ (way_sets hn hw)).1
theorem nth_rank {n : Nat} {ts ws : List Int} (hn : 1 ≤ n) (hw : IsWay n ts ws) : nthW n ts (rankW n ts ws) = ws := by
  unfold nthW rankW szs
  rw [(wr_spec n _ _ (way_sets hn hw)).2]
  exact hw.eq.symm
theorem nth_way {n : Nat} {ts : List Int} (hn : 1 ≤ n) (hp : Poss n ts) {r : Nat} (hr : r < countW n ts) : IsWay n ts (nthW n ts r) := way_of hn hp (wn_spec n _ r hr).1
theorem rank_nth {n : Nat} {ts : List Int} (hn : 1 ≤ n) (hl : n ≤ ts.length ∨ szs n ts = []) {r : Nat} (hr : r < countW n ts) : rankW n ts (nthW n ts r) = r := by
  unfold nthW rankW
  rcases hl with hl | hl
  · rw [List.drop_append_of_le_length (by unfold rng; rw [List.length_map, List.length_range]; omega), List.drop_of_length_le (by unfold rng; rw [List.length_map, List.length_range]; omega), List.nil_append]
    exact (wn_spec n _ r hr).2
  · unfold countW at hr
    rw [hl] at hr ⊢
    have : r = 0 := by unfold cntW at hr; simp at hr; omega
    rw [this]; rfl
theorem szs_few {n : Nat} {ts : List Int} (h : ts.length ≤ n) : szs n ts = [] := by
  unfold szs grps
  rw [List.drop_of_length_le h]; rfl
theorem szs_or {n : Nat} {ts : List Int} : n ≤ ts.length ∨ szs n ts = [] := by
  by_cases h : n ≤ ts.length
  · exact .inl h
  · exact .inr (szs_few (by omega))
theorem count_pos {n : Nat} {ts : List Int} (hn : 1 ≤ n) (hp : Poss n ts) : 1 ≤ countW n ts := by
  unfold countW szs
  have := hp.most hn
  generalize grps n ts = gs at this
  have h : ∀ (gs : List (Int × Nat)) (a : Nat), 1 ≤ a → (∀ g ∈ gs, g.2 ≤ n) → 1 ≤ ((gs.map (·.2)).foldl (fun a s => a * bin n s) a) := fun gs => by
    induction gs with
    | nil => intro a ha _; exact ha
    | cons g gs ih =>
      intro a ha hg
      refine ih _ ?_ fun x hx => hg x (List.mem_cons_of_mem _ hx)
      exact Nat.mul_pos ha (bin_pos n g.2 (hg g List.mem_cons_self))
  exact h gs 1 (Nat.le_refl 1) this
end Lc
namespace Lc
theorem isSet_le {m k : Nat} {c : Int} {cs : List Int} (h : IsSet m c k cs) : k ≤ m := by
  have := (rs_spec m cs c k h).1
  refine Nat.le_of_not_lt fun hlt => ?_
  rw [bin_le m k hlt] at this
  omega
theorem sets_at {n : Nat} : ∀ {sz : List Nat} {l : List Int}, IsSets n l sz → ∀ (j s : Nat), sz[j]? = some s → IsSet n 0 s ((l.drop (sz.take j).sum).take s) ∧ (sz.take j).sum + s ≤ l.length
  | [], _, _, _, _, h => by cases h
  | t :: sz, l, ⟨a, b, e, ha, hb⟩, 0, s, h => by
    cases h
    rw [List.take_zero, List.sum_nil, List.drop_zero, e, List.take_append_of_le_length (by rw [ha.len]; exact Nat.le_refl _), List.take_of_length_le (by rw [ha.len]; exact Nat.le_refl _)]
    exact ⟨ha, by rw [List.length_append, ha.len]; omega⟩
  | t :: sz, l, ⟨a, b, e, ha, hb⟩, j + 1, s, h => by
    obtain ⟨q1, q2⟩ := sets_at hb j s (by simpa using h)
    rw [List.take_succ_cons, List.sum_cons, e, ← ha.len, List.drop_append, List.drop_of_length_le (by omega), List.nil_append, Nat.add_sub_cancel_left]
    exact ⟨q1, by rw [List.length_append]; omega⟩
end Lc
namespace Lc
open PySem PySem.Spec PyProof.Rows L2
theorem for_rev {K : PySem.W.Frag} {a : Addr} {xs : List V} {g : TG} {tb : TS} {D : Ends} {σ : L2.St} {H : Hp} (Pv : Nat → L2.St → Hp → Prop) (h0 : Pv 0 σ H) (hl : ∀ i σ H, i ≤ xs.length → Pv i σ H → SqL K H a xs)
    (hs : ∀ i x σ H, i < xs.length → xs[xs.length - 1 - i]? = some x → Pv i σ H → g x σ H fun σ2 H2 => tb { D with nx := Pv (i + 1), ct := Pv (i + 1), bk := D.nx } σ2 H2) (hd : ∀ σ H, Pv xs.length σ H → D.nx σ H) :
    ∃ W : Nat → Nat → L2.St → Hp → Prop, (∃ m, W 0 m σ H) ∧ ∀ i m σ H, W i m σ H →
      ((Itv K a xs.length).stop i H ∧ D.nx σ H) ∨ ((Itv K a xs.length).go i H ∧ ∃ N : L2.St → Hp → Prop, (∀ σ' H', N σ' H' → ∃ m', m' < m ∧ W (i + 1) m' σ' H') ∧ ∀ x H', (Itv K a xs.length).yld i H x H' → g x σ H' fun σ2 H2 => tb { D with nx := N, ct := N, bk := D.nx } σ2 H2) :=
  for_it walk_rev Pv h0 hl (fun i x σ H H' hi p y => by
    obtain ⟨rfl, e⟩ := y
    exact hs i x σ _ hi e p) hd
end Lc

namespace Lc
/-! ### tops put together -/
theorem okAt_map {n : Nat} {ts : List Int} {φ : Int → Int} (h0 : φ 0 = 0) (hm : ∀ x ∈ ts, ∀ y ∈ ts, x < y → φ x < φ y) (hz : ∀ x ∈ ts, 0 ≤ x) (hz2 : ∀ x ∈ ts, x ≠ 0 → φ x ≠ 0) {i : Nat} (hi : i < ts.length) : okAt n (ts.map φ) i = okAt n ts i := by
  have e : ∀ k, k < ts.length → (ts.map φ).getD k 0 = φ (ts.getD k 0) := fun k hk => by
    rw [List.getD_eq_getElem?_getD, List.getD_eq_getElem?_getD, List.getElem?_map, List.getElem?_eq_getElem hk]; rfl
  have m : ∀ k, k < ts.length → ts.getD k 0 ∈ ts := fun k hk => Lc.getD_mem hk
  have mono : ∀ a b, a < ts.length → b < ts.length → (decide (φ (ts.getD a 0) < φ (ts.getD b 0)) = decide (ts.getD a 0 < ts.getD b 0)) := fun a b ha hb => by
    by_cases h : ts.getD a 0 < ts.getD b 0
    · rw [decide_eq_true h, decide_eq_true (hm _ (m a ha) _ (m b hb) h)]
    · rw [decide_eq_false h, decide_eq_false fun h2 => ?_]
      by_cases h3 : ts.getD b 0 < ts.getD a 0
      · have := hm _ (m b hb) _ (m a ha) h3; omega
      · rw [show ts.getD a 0 = ts.getD b 0 by omega] at h2; omega
  have le : ∀ a b, a < ts.length → b < ts.length → (decide (φ (ts.getD a 0) ≤ φ (ts.getD b 0)) = decide (ts.getD a 0 ≤ ts.getD b 0)) := fun a b ha hb => by
    have := mono b a hb ha
    have q : ∀ x y : Int, decide (x ≤ y) = !decide (y < x) := fun x y => by by_cases h : x ≤ y <;> simp [h] <;> omega
    rw [q, q, this]
  unfold okAt
  by_cases hin : i < n
  · rw [if_pos hin, if_pos hin, e i hi]
    by_cases hv : ts.getD i 0 = 0
    · rw [hv, h0]
    · rw [decide_eq_false hv, decide_eq_false (hz2 _ (m i hi) hv)]
  · rw [if_neg hin, if_neg hin, e i hi, e (i - 1) (by omega), e (i - n) (by omega), le (i - 1) i (by omega) hi, mono (i - n) i (by omega) hi]
theorem poss_map {n : Nat} {ts : List Int} {φ : Int → Int} (h0 : φ 0 = 0) (hm : ∀ x ∈ ts, ∀ y ∈ ts, x < y → φ x < φ y) (hz : ∀ x ∈ ts, 0 ≤ x) (hz2 : ∀ x ∈ ts, x ≠ 0 → φ x ≠ 0) (h : Poss n ts) : Poss n (ts.map φ) := fun i hi => by
  rw [List.length_map] at hi
  rw [okAt_map h0 hm hz hz2 hi]
  exact h i hi
/-- sizes do not feel what the values are -/
theorem rl_map {φ : Int → Int} : ∀ l : List Int, (∀ x ∈ l, ∀ y ∈ l, x ≠ y → φ x ≠ φ y) → rl (l.map φ) = (rl l).map fun g => (φ g.1, g.2) := snoc_ind (fun _ => rfl) fun l x ih h => by
  have i := ih fun a ha b hb => h a (List.mem_append_left _ ha) b (List.mem_append_left _ hb)
  rw [List.map_append, show [x].map φ = [φ x] from rfl, rl_snoc, rl_snoc, i]
  unfold rlS
  rw [List.getLast?_map]
  cases hl : (rl l).getLast? with
  | none => rfl
  | some g =>
    show (if φ g.1 = φ x then _ else _) = List.map _ (if g.1 = x then _ else _)
    have hg : g.1 ∈ l := rl_val l g (List.mem_of_getLast? hl)
    by_cases he : g.1 = x
    · rw [if_pos he, if_pos (by rw [he]), List.map_append, List.map_dropLast]; rfl
    · rw [if_neg he, if_neg (h g.1 (List.mem_append_left _ hg) x (List.mem_append_right _ (List.mem_singleton.mpr rfl)) he), List.map_append]; rfl
theorem szs_map {n : Nat} {ts : List Int} {φ : Int → Int} (h : ∀ x ∈ ts, ∀ y ∈ ts, x ≠ y → φ x ≠ φ y) : szs n (ts.map φ) = szs n ts := by
  unfold szs grps
  rw [← List.map_drop, rl_map _ fun x hx y hy => h x (List.mem_of_mem_drop hx) y (List.mem_of_mem_drop hy), List.map_map]
  rfl
theorem rl_append {a : List Int} : ∀ b : List Int, (∀ x y, a.getLast? = some x → b.head? = some y → x ≠ y) → rl (a ++ b) = rl a ++ rl b := snoc_ind (fun _ => by rw [List.append_nil]; exact (List.append_nil _).symm) fun l x ih h => by
  rw [← List.append_assoc, rl_snoc]
  cases hl : l with
  | nil =>
    rw [List.append_nil, List.nil_append]
    subst hl
    have e : rl [x] = [(x, 1)] := rfl
    rw [e]
    unfold rlS
    cases hr : (rl a).getLast? with
    | none =>
      have : rl a = [] := List.getLast?_eq_none_iff.mp hr
      rw [this]; rfl
    | some g =>
      have e2 : ∃ y, a.getLast? = some y ∧ g.1 = y := by
        cases hy : a.getLast? with
        | none =>
          have : a = [] := List.getLast?_eq_none_iff.mp hy
          rw [this] at hr; cases hr
        | some y =>
          have ea := drop_last_eq hy
          obtain ⟨s, hs⟩ := rl_last a.dropLast y
          rw [← ea, hr] at hs
          exact ⟨y, rfl, by rw [Option.some.inj hs]⟩
      obtain ⟨y, hy, hgy⟩ := e2
      show (if g.1 = x then _ else _) = _
      rw [if_neg (by rw [hgy]; exact h y x hy rfl)]
  | cons z zs =>
    rw [← hl]
    have hne : l ≠ [] := by rw [hl]; simp
    rw [ih fun u v hu hv => h u v hu (by rw [List.head?_append, hv]; rfl), rl_snoc l x]
    unfold rlS
    have hrl : rl l ≠ [] := fun e => hne (by have := flat_rl l; rw [e] at this; exact this.symm)
    have e3 : (rl a ++ rl l).getLast? = (rl l).getLast? := by
      rw [List.getLast?_append]
      cases h : (rl l).getLast? with
      | none => exact absurd (List.getLast?_eq_none_iff.mp h) hrl
      | some g => rfl
    rw [e3]
    cases hg : (rl l).getLast? with
    | none => exact absurd (List.getLast?_eq_none_iff.mp hg) hrl
    | some g =>
      show (if g.1 = x then (rl a ++ rl l).dropLast ++ [(g.1, g.2 + 1)] else rl a ++ rl l ++ [(x, 1)]) = rl a ++ (if g.1 = x then (rl l).dropLast ++ [(g.1, g.2 + 1)] else rl l ++ [(x, 1)])
      by_cases he : g.1 = x
      · rw [if_pos he, if_pos he, List.dropLast_append_of_ne_nil hrl, List.append_assoc]
      · rw [if_neg he, if_neg he, List.append_assoc]
theorem cntW_app (n : Nat) (a : List Nat) : ∀ b : List Nat, cntW n (a ++ b) = cntW n a * cntW n b := snocN_ind (by rw [List.append_nil]; show _ = _ * 1; rw [Nat.mul_one]) fun b s ih => by
  rw [← List.append_assoc, cntW_snoc, cntW_snoc, ih, Nat.mul_assoc]
theorem wr_append (n : Nat) {l0 : List Int} {s0 : List Nat} (h : l0.length = s0.sum) (l1 : List Int) : ∀ s1 : List Nat, (wr n (l0 ++ l1) (s0 ++ s1)).1 = (wr n l0 s0).1 * cntW n s1 + (wr n l1 s1).1 := snocN_ind (by
    rw [List.append_nil, wr_app n l0 l1 s0 (by omega)]
    show _ = _ * 1 + 0
    omega) fun s1 s ih => by
  rw [← List.append_assoc, wr_snoc, cntW_snoc, wr_snoc]
  show (wr n (l0 ++ l1) (s0 ++ s1)).1 * bin n s + rs n 0 (((l0 ++ l1).drop (wr n (l0 ++ l1) (s0 ++ s1)).2).take s) = (wr n l0 s0).1 * (cntW n s1 * bin n s) + ((wr n l1 s1).1 * bin n s + rs n 0 ((l1.drop (wr n l1 s1).2).take s))
  rw [ih, wr_at, wr_at, List.sum_append, ← h, List.drop_append, List.drop_of_length_le (by omega), List.nil_append, Nat.add_sub_cancel_left, Nat.add_mul, Nat.mul_assoc]
  omega
theorem isSets_app {n : Nat} : ∀ {s0 : List Nat} {l0 l1 : List Int} {s1 : List Nat}, IsSets n l0 s0 → IsSets n l1 s1 → IsSets n (l0 ++ l1) (s0 ++ s1)
  | [], l0, l1, s1, h0, h1 => by rw [show l0 = [] from h0]; exact h1
  | s :: s0, l0, l1, s1, ⟨a, b, e, ha, hb⟩, h1 => ⟨a, b ++ l1, by rw [e, List.append_assoc], ha, isSets_app hb h1⟩
/-- later tops behind first ones -/
theorem poss_later {n : Nat} {ts ls : List Int} (hn : 1 ≤ n) (h : Poss n ts) (hl : n ≤ ts.length) (hlow : ∀ t ∈ ts, ∀ x ∈ ls, t < x) (h2 : Poss n (List.replicate n 0 ++ ls)) : Poss n (ts ++ ls) := fun i hi => by
  rw [List.length_append] at hi
  by_cases hc : i < ts.length
  · have q := h i hc
    unfold okAt at q ⊢
    rw [getD_append_left hc, getD_append_left (show i - 1 < ts.length by omega), getD_append_left (show i - n < ts.length by omega)]
    exact q
  · have er : ∀ k, ts.length ≤ k → (ts ++ ls).getD k 0 = ls.getD (k - ts.length) 0 := fun k hk => by
      rw [List.getD_eq_getElem?_getD, List.getD_eq_getElem?_getD, List.getElem?_append_right hk]
    have ez : ∀ k, n ≤ k → (List.replicate n 0 ++ ls).getD k 0 = ls.getD (k - n) 0 := fun k hk => by
      rw [List.getD_eq_getElem?_getD, List.getD_eq_getElem?_getD, List.getElem?_append_right (by rw [List.length_replicate]; exact hk), List.length_replicate]
    have hx : ls.getD (i - ts.length) 0 ∈ ls := Lc.getD_mem (by omega)
    unfold okAt
    rw [if_neg (by omega), er i (by omega)]
    have q := h2 (n + (i - ts.length)) (by rw [List.length_append, List.length_replicate]; omega)
    unfold okAt at q
    rw [if_neg (by omega), ez (n + (i - ts.length)) (by omega), show n + (i - ts.length) - n = i - ts.length by omega] at q
    obtain ⟨q1, q2⟩ := Bool.and_eq_true_iff.mp q
    have q1 := of_decide_eq_true q1
    have q2 := of_decide_eq_true q2
    refine Bool.and_eq_true_iff.mpr ⟨decide_eq_true ?_, decide_eq_true ?_⟩
    · by_cases hp : i - 1 < ts.length
      · rw [getD_append_left hp]
        have := hlow _ (Lc.getD_mem hp) _ hx
        omega
      · rw [er _ (by omega)]
        rw [ez (n + (i - ts.length) - 1) (by omega), show n + (i - ts.length) - 1 - n = i - 1 - ts.length by omega] at q1
        exact q1
    · by_cases hp : i - n < ts.length
      · rw [getD_append_left hp]
        exact hlow _ (Lc.getD_mem hp) _ hx
      · rw [er _ (by omega)]
        rw [ez (i - ts.length) (by omega), show i - ts.length - n = i - n - ts.length by omega] at q2
        exact q2
theorem grps_later {n : Nat} {ts ls : List Int} (hl : n ≤ ts.length) (hlow : ∀ t ∈ ts, ∀ x ∈ ls, t < x) : szs n (ts ++ ls) = szs n ts ++ (rl ls).map (·.2) := by
  unfold szs grps
  rw [List.drop_append_of_le_length hl, rl_append _ fun x y hx hy => ?_, List.map_append]
  have h1 : x ∈ ts := List.mem_of_mem_drop (List.mem_of_getLast? hx)
  have h2 : y ∈ ls := List.mem_of_head? hy
  have := hlow x h1 y h2
  omega
theorem szs_zeros {n : Nat} {ls : List Int} : szs n (List.replicate n 0 ++ ls) = (rl ls).map (·.2) := by
  unfold szs grps
  rw [List.drop_append_of_le_length (by rw [List.length_replicate]; exact Nat.le_refl _), List.drop_of_length_le (by rw [List.length_replicate]; exact Nat.le_refl _), List.nil_append]
/-- what is above 0 in possible tops -/
theorem poss_pos {n : Nat} {ts : List Int} (hn : 1 ≤ n) (h : Poss n ts) : ts.filter (fun x => decide (0 < x)) = ts.drop n := by
  conv => lhs; rw [← List.take_append_drop n ts]
  rw [List.filter_append, h.take0]
  have e1 : (List.replicate (min n ts.length) (0 : Int)).filter (fun x => decide (0 < x)) = [] := List.filter_eq_nil_iff.mpr fun x hx => by rw [(List.mem_replicate.mp hx).2]; decide
  have e2 : (ts.drop n).filter (fun x => decide (0 < x)) = ts.drop n := List.filter_eq_self.mpr fun x hx => by
    obtain ⟨k, hk, e⟩ := List.getElem_of_mem hx
    rw [List.getElem_drop] at e
    rw [List.length_drop] at hk
    have := h.above hn (i := n + k) (by omega) (by omega)
    rw [List.getD_eq_getElem?_getD, List.getElem?_eq_getElem (by omega), e] at this
    exact decide_eq_true this
  rw [e1, e2, List.nil_append]
/-- zeros ahead of moved tops -/
theorem poss_moved {n : Nat} {ts : List Int} {d : Int} (hn : 1 ≤ n) (hd : 0 ≤ d) (h : Poss n ts) (hz : ∀ x ∈ ts, 0 ≤ x) : Poss n (List.replicate n 0 ++ (ts.drop n).map (· + d)) := by
  by_cases hl : n ≤ ts.length
  · have e : List.replicate n 0 ++ (ts.drop n).map (· + d) = ts.map fun x => if 0 < x then x + d else 0 := by
      conv => rhs; rw [← List.take_append_drop n ts]
      rw [List.map_append, h.take0, Nat.min_eq_left hl, List.map_replicate, if_neg (by decide)]
      refine congrArg (List.replicate n (0 : Int) ++ ·) (List.map_congr_left fun x hx => ?_)
      obtain ⟨k, hk, e⟩ := List.getElem_of_mem hx
      rw [List.getElem_drop] at e
      rw [List.length_drop] at hk
      have := h.above hn (i := n + k) (by omega) (by omega)
      rw [List.getD_eq_getElem?_getD, List.getElem?_eq_getElem (by omega), e] at this
      rw [if_pos (show 0 < x from this)]
    rw [e]
    refine poss_map (by rw [if_neg (by decide)]) (fun x hx y hy hxy => ?_) hz (fun x hx hne => ?_) h
    · have := hz x hx
      have := hz y hy
      split <;> split <;> omega
    · have := hz x hx
      rw [if_pos (by omega)]; omega
  · rw [List.drop_of_length_le (by omega), List.map_nil, List.append_nil]
    exact poss_zeros (Nat.le_refl _)
end Lc

namespace Lc
/-! ### ways and layouts -/
/-- places as the play has them -/
def plc (ws ts : List Int) : List (Nat × Int) := (ws.zip ts).map fun p => (p.1.toNat, p.2)
theorem plc_len {ws ts : List Int} (h : ws.length = ts.length) : (plc ws ts).length = ts.length := by
  unfold plc
  rw [List.length_map, List.length_zip]; omega
theorem plc_get {ws ts : List Int} (h : ws.length = ts.length) {i : Nat} (hi : i < ts.length) : (plc ws ts)[i]? = some ((ws.getD i 0).toNat, ts.getD i 0) := by
  unfold plc
  have hz : i < (ws.zip ts).length := by rw [List.length_zip]; omega
  rw [List.getElem?_map, List.getElem?_eq_getElem hz, List.getElem_zip, List.getD_eq_getElem?_getD, List.getD_eq_getElem?_getD, List.getElem?_eq_getElem hi, List.getElem?_eq_getElem (by omega)]
  rfl
/-- what the next top in a column is -/
theorem nx_cases (B c : Int) : ∀ ps : List (Int × Int), nx B c ps = B ∨ ∃ k : Nat, ps[k]? = some (c, nx B c ps)
  | [] => .inl rfl
  | p :: r => by
    unfold nx
    by_cases h : p.1 = c
    · rw [if_pos h]
      exact .inr ⟨0, by rw [← h]; rfl⟩
    · rw [if_neg h]
      rcases nx_cases B c r with e | ⟨k, e⟩
      · exact .inl e
      · exact .inr ⟨k + 1, by rw [List.getElem?_cons_succ]; exact e⟩
theorem zip_at {ws ts : List Int} (h : ws.length = ts.length) {i k : Nat} {c v : Int} (e : ((ws.zip ts).drop i)[k]? = some (c, v)) : i + k < ts.length ∧ ws.getD (i + k) 0 = c ∧ ts.getD (i + k) 0 = v := by
  rw [List.getElem?_drop] at e
  have hl := (List.getElem?_eq_some_iff.mp e).1
  rw [List.length_zip] at hl
  rw [List.getElem?_eq_getElem (by rw [List.length_zip]; exact hl), List.getElem_zip] at e
  have e := Option.some.inj e
  have e1 := congrArg Prod.fst e
  have e2 := congrArg Prod.snd e
  refine ⟨by omega, ?_, ?_⟩
  · rw [List.getD_eq_getElem?_getD, List.getElem?_eq_getElem (by omega)]; exact e1
  · rw [List.getD_eq_getElem?_getD, List.getElem?_eq_getElem (by omega)]; exact e2
/-- the columns after i cards -/
def colI (B : Int) (n : Nat) (ts ws : List Int) (i : Nat) : List Int := (List.range n).map fun c => if c < i then nx B ((c : Nat) : Int) ((ws.zip ts).drop i) else 0
theorem colI_len (B : Int) (n : Nat) (ts ws : List Int) (i : Nat) : (colI B n ts ws i).length = n := by unfold colI; rw [List.length_map, List.length_range]
theorem colI_get {B : Int} {n : Nat} {ts ws : List Int} {i c : Nat} (h : c < n) : (colI B n ts ws i)[c]? = some (if c < i then nx B ((c : Nat) : Int) ((ws.zip ts).drop i) else 0) := by
  unfold colI
  rw [List.getElem?_map, List.getElem?_range h]; rfl
theorem way_head {n : Nat} {ts ws : List Int} (hw : IsWay n ts ws) {i : Nat} (hi : i < n) (hl : i < ts.length) : ws.getD i 0 = ((i : Nat) : Int) := by
  have e := congrArg (fun l : List Int => l.getD i 0) hw.head
  have e : (ws.take n).getD i 0 = ((List.range (min n ts.length)).map fun k => ((k : Nat) : Int)).getD i 0 := e
  rw [getD_take hi, List.getD_eq_getElem?_getD (l := List.map _ _), List.getElem?_map, List.getElem?_range (by omega)] at e
  exact e
/-- within equal tops the columns rise -/
theorem way_rise {n : Nat} {ts ws : List Int} (hn : 1 ≤ n) (hp : Poss n ts) (hw : IsWay n ts ws) {i : Nat} (hi : n ≤ i) : ∀ k, i + (k + 1) < ts.length → ts.getD (i + (k + 1)) 0 = ts.getD i 0 → ws.getD i 0 < ws.getD (i + (k + 1)) 0
  | 0, hl, he => by
    have := hw.asc (i + 1) (by omega) hl
    rw [show i + 1 - 1 = i by omega] at this
    have he' : ts.getD (i + 1) 0 = ts.getD i 0 := he
    exact this.resolve_left (by omega)
  | k + 1, hl, he => by
    have m1 := ok_le (n := n) (ts := ts) (m := ts.length - 1) (a := i) (b := i + (k + 1)) hn (fun j hj => hp j (by omega)) (by omega) (by omega)
    have m2 := ok_le (n := n) (ts := ts) (m := ts.length - 1) (a := i + (k + 1)) (b := i + (k + 1 + 1)) hn (fun j hj => hp j (by omega)) (by omega) (by omega)
    have ih := way_rise hn hp hw hi k (by omega) (by omega)
    have := hw.asc (i + (k + 1 + 1)) (by omega) hl
    rw [show i + (k + 1 + 1) - 1 = i + (k + 1) by omega] at this
    have := this.resolve_left (by omega)
    omega
theorem col_low {B : Int} {n : Nat} {ts ws : List Int} (hn : 1 ≤ n) (hp : Poss n ts) (hw : IsWay n ts ws) (hB : ∀ t ∈ ts, t < B) (hB0 : 0 < B) {i : Nat} (hi : i < ts.length) :
    (ws.getD i 0).toNat = low false (colI B n ts ws i) ∧ ts.getD i 0 = mn (colI B n ts ws i) := by
  have hlw := hw.len
  have hwi := hw.all _ (Lc.getD_mem (show i < ws.length by omega))
  obtain ⟨c, ec⟩ := Int.eq_ofNat_of_zero_le hwi.1
  have hc : c < n := by omega
  have hti := hB _ (Lc.getD_mem hi)
  -- its height, the others'
  have h1 : (colI B n ts ws i)[c]? = some (ts.getD i 0) := by
    rw [colI_get hc]
    by_cases hin : i < n
    · have := way_head hw hin hi
      rw [if_neg (by omega), hp.zero hin hi]
    · rw [if_pos (by omega), zip_drop hi hlw, ec]
      show some (if ((c : Nat) : Int) = ((c : Nat) : Int) then _ else _) = _
      rw [if_pos rfl]
  have h2 : ∀ j v, (colI B n ts ws i)[j]? = some v → ts.getD i 0 ≤ v ∧ (v = ts.getD i 0 → c ≤ j) := fun j v hv => by
    have hj : j < n := by have := (List.getElem?_eq_some_iff.mp hv).1; rwa [colI_len] at this
    rw [colI_get hj] at hv
    have hv := Option.some.inj hv
    by_cases hin : i < n
    · have hci := way_head hw hin hi
      have hz := hp.zero hin hi
      rw [hz]
      by_cases hji : j < i
      · rw [if_pos hji] at hv
        have : 0 < v := by
          rcases nx_cases B ((j : Nat) : Int) ((ws.zip ts).drop i) with e | ⟨k, e⟩
          · omega
          · obtain ⟨a1, a2, a3⟩ := zip_at hlw e
            by_cases hkn : i + k < n
            · have := way_head hw hkn a1
              omega
            · have := hp.above hn (i := i + k) (by omega) a1
              omega
        omega
      · rw [if_neg hji] at hv
        omega
    · rw [if_pos (by omega)] at hv
      rw [zip_drop hi hlw] at hv
      have hv : (if ws.getD i 0 = ((j : Nat) : Int) then ts.getD i 0 else nx B ((j : Nat) : Int) ((ws.zip ts).drop (i + 1))) = v := hv
      by_cases hij : ws.getD i 0 = ((j : Nat) : Int)
      · rw [if_pos hij] at hv
        omega
      · rw [if_neg hij] at hv
        rcases nx_cases B ((j : Nat) : Int) ((ws.zip ts).drop (i + 1)) with e | ⟨k, e⟩
        · omega
        · obtain ⟨a1, a2, a3⟩ := zip_at hlw e
          rw [hv] at a3
          have m1 := ok_le (n := n) (ts := ts) (m := ts.length - 1) (a := i) (b := i + 1 + k) hn (fun j hj => hp j (by omega)) (by omega) (by omega)
          refine ⟨by omega, fun hve => ?_⟩
          have r := way_rise hn hp hw (i := i) (by omega) k (by omega) (by rw [show i + (k + 1) = i + 1 + k by omega]; omega)
          rw [show i + (k + 1) = i + 1 + k by omega] at r
          omega
  have em : mn (colI B n ts ws i) = ts.getD i 0 := mn_eq (List.mem_of_getElem? h1) fun y hy => by
    obtain ⟨j, hj, e⟩ := List.getElem_of_mem hy
    exact (h2 j y (by rw [List.getElem?_eq_getElem hj, e])).1
  refine ⟨?_, em.symm⟩
  rw [ec]
  refine low_char (r := false) (by rw [em]; exact h1) fun j hj => ?_
  rw [em] at hj
  exact (h2 j _ hj).2 rfl
theorem colI_zero (B : Int) (n : Nat) (ts ws : List Int) : colI B n ts ws 0 = List.replicate n 0 := by
  refine List.ext_getElem? fun c => ?_
  by_cases h : c < n
  · rw [colI_get h, if_neg (by omega), List.getElem?_replicate, if_pos h]
  · rw [List.getElem?_eq_none (by rw [colI_len]; omega), List.getElem?_eq_none (by rw [List.length_replicate]; omega)]
theorem colI_step {B : Int} {n : Nat} {ts ws : List Int} (hw : IsWay n ts ws) {i : Nat} (hi : i < ts.length) :
    (colI B n ts ws i).set (ws.getD i 0).toNat (nx B (ws.getD i 0) ((ws.zip ts).drop (i + 1))) = colI B n ts ws (i + 1) := by
  have hlw := hw.len
  have hwi := hw.all _ (Lc.getD_mem (show i < ws.length by omega))
  obtain ⟨c, ec⟩ := Int.eq_ofNat_of_zero_le hwi.1
  have hc : c < n := by omega
  rw [ec]
  show (colI B n ts ws i).set c _ = _
  refine List.ext_getElem? fun j => ?_
  rw [List.getElem?_set]
  by_cases hj : j < n
  · by_cases e : c = j
    · subst e
      rw [if_pos rfl, if_pos (by rw [colI_len]; exact hj), colI_get hj]
      by_cases hin : i < n
      · have := way_head hw hin hi
        rw [if_pos (by omega)]
      · rw [if_pos (by omega)]
    · rw [if_neg e, colI_get hj, colI_get hj]
      have en : nx B ((j : Nat) : Int) ((ws.zip ts).drop i) = nx B ((j : Nat) : Int) ((ws.zip ts).drop (i + 1)) := by
        rw [zip_drop hi hlw]
        show (if ws.getD i 0 = ((j : Nat) : Int) then _ else _) = _
        rw [if_neg (by omega)]
      rw [en]
      by_cases hin : i < n
      · have := way_head hw hin hi
        by_cases h1 : j < i
        · rw [if_pos h1, if_pos (by omega)]
        · rw [if_neg h1, if_neg (by omega)]
      · rw [if_pos (by omega), if_pos (by omega)]
  · rw [if_neg (by omega), List.getElem?_eq_none (by rw [colI_len]; omega), List.getElem?_eq_none (by rw [colI_len]; omega)]
/-- the cards of a way, laid again -/
theorem lay_cow {B : Int} {n : Nat} {ts ws : List Int} (hn : 1 ≤ n) (hp : Poss n ts) (hw : IsWay n ts ws) (hB : ∀ t ∈ ts, t < B) (hB0 : 0 < B) :
    ∀ i, i ≤ ts.length → play false (List.replicate n 0) ((cow B ts ws).take i) = ((plc ws ts).take i, colI B n ts ws i)
  | 0, _ => by rw [List.take_zero, List.take_zero, colI_zero]; rfl
  | i + 1, h => by
    have hlw := hw.len
    have ih := lay_cow hn hp hw hB hB0 i (by omega)
    have hi : i < ts.length := by omega
    have e : (cow B ts ws)[i]? = some (hwy B ts ws i) := by
      unfold cow
      rw [List.getElem?_map, List.getElem?_range hi]; rfl
    rw [play_take e, ih]
    obtain ⟨c1, c2⟩ := col_low hn hp hw hB hB0 hi
    unfold put
    refine Prod.ext ?_ ?_
    · show (plc ws ts).take i ++ [(low false (colI B n ts ws i), mn (colI B n ts ws i))] = (plc ws ts).take (i + 1)
      rw [← c1, ← c2, List.take_add_one, plc_get hlw hi]; rfl
    · show (colI B n ts ws i).set (low false (colI B n ts ws i)) (mn (colI B n ts ws i) + hwy B ts ws i) = colI B n ts ws (i + 1)
      rw [← c1, ← c2, ← colI_step hw hi]
      unfold hwy
      rw [show ts.getD i 0 + (nx B (ws.getD i 0) ((ws.zip ts).drop (i + 1)) - ts.getD i 0) = nx B (ws.getD i 0) ((ws.zip ts).drop (i + 1)) by omega]
theorem lay_all {B : Int} {n : Nat} {ts ws : List Int} (hn : 1 ≤ n) (hp : Poss n ts) (hw : IsWay n ts ws) (hB : ∀ t ∈ ts, t < B) (hB0 : 0 < B) :
    play false (List.replicate n 0) (cow B ts ws) = (plc ws ts, (List.range n).map fun c => if c < ts.length then B else 0) := by
  have h := lay_cow hn hp hw hB hB0 ts.length (Nat.le_refl _)
  rw [List.take_of_length_le (by rw [cow_len]; exact Nat.le_refl _), List.take_of_length_le (by rw [plc_len hw.len]; exact Nat.le_refl _)] at h
  rw [h]
  unfold colI
  rw [List.drop_of_length_le (by rw [List.length_zip]; omega)]
  rfl
/-- the cards are cards -/
theorem cow_pos {B : Int} {n : Nat} {ts ws : List Int} (hn : 1 ≤ n) (hp : Poss n ts) (hw : IsWay n ts ws) (hB : ∀ t ∈ ts, t < B) : ∀ h ∈ cow B ts ws, 1 ≤ h := fun h hh => by
  obtain ⟨i, hi, rfl⟩ := List.mem_map.mp hh
  have hi := List.mem_range.mp hi
  have hlw := hw.len
  unfold hwy
  rcases nx_cases B (ws.getD i 0) ((ws.zip ts).drop (i + 1)) with e | ⟨k, e⟩
  · rw [e]
    have := hB _ (Lc.getD_mem hi)
    omega
  · obtain ⟨a1, a2, a3⟩ := zip_at hlw e
    have m1 := ok_le (n := n) (ts := ts) (m := ts.length - 1) (a := i) (b := i + 1 + k) hn (fun j hj => hp j (by omega)) (by omega) (by omega)
    refine Int.le_sub_left_of_add_le ?_
    have : ts.getD (i + 1 + k) 0 ≠ ts.getD i 0 := fun he => by
      by_cases hin : i < n
      · have h1 := way_head hw hin hi
        by_cases hkn : i + 1 + k < n
        · have := way_head hw hkn a1
          omega
        · have := hp.above hn (i := i + 1 + k) (by omega) a1
          have := hp.zero hin hi
          omega
      · have r := way_rise hn hp hw (i := i) (by omega) k (by omega) (by rw [show i + (k + 1) = i + 1 + k by omega]; exact he)
        rw [show i + (k + 1) = i + 1 + k by omega] at r
        omega
    omega
end Lc

namespace Lc
/-! ### mirrored ways -/
def mirG (n : Nat) (l : List Int) : List Int := (l.map fun c => (n : Int) - 1 - c).reverse
def mirL (n : Nat) : List Nat → List Int → List Int
  | [], _ => []
  | s :: ss, l => mirG n (l.take s) ++ mirL n ss (l.drop s)
theorem mirG_len (n : Nat) (l : List Int) : (mirG n l).length = l.length := by unfold mirG; rw [List.length_reverse, List.length_map]
theorem mirG_set {n s : Nat} {l : List Int} (h : IsSet n 0 s l) : IsSet n 0 s (mirG n l) := by
  refine ⟨by rw [mirG_len, h.len], ?_, fun x hx => ?_⟩
  · unfold mirG Asc
    rw [List.pairwise_reverse, List.pairwise_map]
    exact h.asc.imp fun hab => by omega
  · unfold mirG at hx
    obtain ⟨y, hy, rfl⟩ := List.mem_map.mp (List.mem_reverse.mp hx)
    have := h.all y hy
    omega
theorem mirG_inv (n : Nat) (l : List Int) : mirG n (mirG n l) = l := by
  unfold mirG
  rw [List.map_reverse, List.reverse_reverse, List.map_map]
  conv => rhs; rw [← List.map_id l]
  refine List.map_congr_left fun x _ => ?_
  show (n : Int) - 1 - ((n : Int) - 1 - x) = x
  omega
theorem mirL_sets {n : Nat} : ∀ {szs : List Nat} {l : List Int}, IsSets n l szs → IsSets n (mirL n szs l) szs
  | [], l, h => rfl
  | s :: szs, l, ⟨a, b, e, ha, hb⟩ => by
    have e1 : l.take s = a := by rw [e, ← ha.len, List.take_left']; rfl
    have e2 : l.drop s = b := by rw [e, ← ha.len, List.drop_left']; rfl
    refine ⟨mirG n a, mirL n szs b, ?_, mirG_set ha, mirL_sets hb⟩
    show mirG n (l.take s) ++ mirL n szs (l.drop s) = _
    rw [e1, e2]
theorem mirL_inv {n : Nat} : ∀ {szs : List Nat} {l : List Int}, IsSets n l szs → mirL n szs (mirL n szs l) = l
  | [], l, h => by rw [show l = [] from h]; rfl
  | s :: szs, l, ⟨a, b, e, ha, hb⟩ => by
    have e1 : l.take s = a := by rw [e, ← ha.len, List.take_left']; rfl
    have e2 : l.drop s = b := by rw [e, ← ha.len, List.drop_left']; rfl
    have e3 : mirL n (s :: szs) l = mirG n a ++ mirL n szs b := by
      show mirG n (l.take s) ++ mirL n szs (l.drop s) = _
      rw [e1, e2]
    rw [e3]
    show mirG n ((mirG n a ++ mirL n szs b).take s) ++ mirL n szs ((mirG n a ++ mirL n szs b).drop s) = l
    have ls : (mirG n a).length = s := by rw [mirG_len, ha.len]
    rw [← ls, List.take_left' rfl, List.drop_left' rfl, mirG_inv, mirL_inv hb, e]
theorem mirL_snoc {n : Nat} : ∀ {szs : List Nat} {l c : List Int} {s : Nat}, IsSets n l szs → c.length = s → mirL n (szs ++ [s]) (l ++ c) = mirL n szs l ++ mirG n c
  | [], l, c, s, h, hc => by
    rw [show l = [] from h]
    show mirG n (c.take s) ++ [] = [] ++ mirG n c
    rw [List.append_nil, ← hc, List.take_length]; rfl
  | t :: szs, l, c, s, ⟨a, b, e, ha, hb⟩, hc => by
    have e1 : (l ++ c).take t = a := by rw [e, List.append_assoc, ← ha.len, List.take_left']; rfl
    have e2 : (l ++ c).drop t = b ++ c := by rw [e, List.append_assoc, ← ha.len, List.drop_left']; rfl
    have e3 : l.take t = a := by rw [e, ← ha.len, List.take_left']; rfl
    have e4 : l.drop t = b := by rw [e, ← ha.len, List.drop_left']; rfl
    show mirG n ((l ++ c).take t) ++ mirL n (szs ++ [s]) ((l ++ c).drop t) = mirG n (l.take t) ++ mirL n szs (l.drop t) ++ mirG n c
    rw [e1, e2, e3, e4, mirL_snoc hb hc, List.append_assoc]
theorem rs_one : ∀ (m : Nat) (c x : Int), c ≤ x → x < c + m → (rs m c [x] : Int) = x - c
  | 0, c, x, h1, h2 => by omega
  | m + 1, c, x, h1, h2 => by
    rw [rs_cons]
    by_cases e : c = x
    · rw [if_pos e, rs_nil]; omega
    · rw [if_neg e]
      have := rs_one m (c + 1) x (by omega) (by omega)
      show ((bin m 0 + rs m (c + 1) [x] : Nat) : Int) = _
      rw [bin_zero]
      omega
/-- the numbers of mirrored ways count from the end -/
theorem wr_mir (n : Nat) : ∀ (szs : List Nat), (∀ s ∈ szs, s = 1 ∨ s = n) → ∀ l, IsSets n l szs → (wr n l szs).1 + (wr n (mirL n szs l) szs).1 + 1 = cntW n szs := snocN_ind (fun _ l h => by rfl) fun szs s ih hs l h => by
  obtain ⟨a, c, e, ha, hc⟩ := isSets_unsnoc h
  have h1 := ih (fun t ht => hs t (List.mem_append_left _ ht)) a ha
  have hl := isSets_len ha
  have hm := mirL_sets ha
  have hml := isSets_len hm
  have hmc := mirG_set hc
  subst e
  rw [mirL_snoc ha hc.len]
  have ew : ∀ a c : List Int, IsSets n a szs → IsSet n 0 s c → (wr n (a ++ c) (szs ++ [s])).1 = (wr n a szs).1 * bin n s + rs n 0 c := fun a c ha hc => by
    have hl := isSets_len ha
    rw [wr_snoc, wr_at, wr_app n _ _ szs (by omega), List.drop_append_of_le_length (by omega), List.drop_of_length_le (by omega), List.nil_append, List.take_of_length_le (by rw [hc.len]; exact Nat.le_refl _)]
  rw [ew a c ha hc, ew _ _ hm hmc, cntW_snoc, ← h1]
  have hr : rs n 0 c + rs n 0 (mirG n c) + 1 = bin n s := by
    rcases hs s (List.mem_append_right _ List.mem_cons_self) with rfl | rfl
    · obtain ⟨x, rfl⟩ : ∃ x, c = [x] := by
        have := hc.len
        match c, this with
        | [x], _ => exact ⟨x, rfl⟩
      have hx := hc.all x List.mem_cons_self
      have r1 := rs_one n 0 x (by omega) (by omega)
      have r2 := rs_one n 0 ((n : Int) - 1 - x) (by omega) (by omega)
      rw [bin_one]
      show rs n 0 [x] + rs n 0 [(n : Int) - 1 - x] + 1 = n
      omega
    · have r1 := (rs_spec s c 0 s hc).1
      have r2 := (rs_spec s _ 0 s hmc).1
      rw [bin_self] at r1 r2 ⊢
      omega
  rw [← hr, Nat.add_mul, Nat.add_mul, Nat.one_mul]
  omega
def mirW (n : Nat) (ts ws : List Int) : List Int := rng (min n ts.length) ++ mirL n (szs n ts) (ws.drop n)
theorem rng_len (m : Nat) : (rng m).length = m := by unfold rng; rw [List.length_map, List.length_range]
theorem mirW_drop {n : Nat} {ts ws : List Int} (hn : 1 ≤ n) (hw : IsWay n ts ws) : (mirW n ts ws).drop n = mirL n (szs n ts) (ws.drop n) := by
  unfold mirW
  by_cases h : n ≤ ts.length
  · rw [List.drop_append_of_le_length (by rw [rng_len]; omega), List.drop_of_length_le (by rw [rng_len]; omega), List.nil_append]
  · rw [szs_few (by omega)]
    show (rng (min n ts.length) ++ []).drop n = []
    rw [List.append_nil, List.drop_of_length_le (by rw [rng_len]; omega)]
theorem mirW_way {n : Nat} {ts ws : List Int} (hn : 1 ≤ n) (hp : Poss n ts) (hw : IsWay n ts ws) : IsWay n ts (mirW n ts ws) := way_of hn hp (mirL_sets (way_sets hn hw))
theorem mirW_inv {n : Nat} {ts ws : List Int} (hn : 1 ≤ n) (hp : Poss n ts) (hw : IsWay n ts ws) : mirW n ts (mirW n ts ws) = ws := by
  conv => rhs; rw [hw.eq]
  show rng _ ++ mirL n (szs n ts) ((mirW n ts ws).drop n) = _
  rw [mirW_drop hn hw, show mirL n (szs n ts) (mirL n (szs n ts) (ws.drop n)) = ws.drop n from mirL_inv (way_sets hn hw)]
theorem mirW_rank {n : Nat} {ts ws : List Int} (hn : 1 ≤ n) (hp : Poss n ts) (hw : IsWay n ts ws) (h : ∀ s ∈ szs n ts, s = 1 ∨ s = n) : rankW n ts ws + rankW n ts (mirW n ts ws) + 1 = countW n ts := by
  unfold rankW countW
  rw [mirW_drop hn hw]
  exact wr_mir n _ h _ (way_sets hn hw)
/-! ### the right one of equal columns -/
def mirQ (n : Nat) (ps : List (Nat × Int)) : List (Nat × Int) := ps.map fun p => (n - 1 - p.1, p.2)
def mirT (n : Nat) (s : List (Nat × Int) × List Int) : List (Nat × Int) × List Int := (mirQ n s.1, s.2.reverse)
theorem mn_revQ {l : List Int} (h : l ≠ []) : mn l.reverse = mn l := mn_eq (List.mem_reverse.mpr (mn_spec h).1) fun y hy => (mn_spec h).2 y (List.mem_reverse.mp hy)
theorem low_revQ {l : List Int} (h : l ≠ []) : low true l.reverse = l.length - 1 - low false l := by
  unfold low
  rw [if_pos rfl, if_neg (by simp), mn_revQ h, List.reverse_reverse, List.length_reverse]
theorem set_revQ {l : List Int} {i : Nat} {v : Int} (h : i < l.length) : l.reverse.set (l.length - 1 - i) v = (l.set i v).reverse := by
  refine List.ext_getElem (by simp) fun j h1 h2 => ?_
  simp only [List.length_set, List.length_reverse] at h1 h2
  rw [List.getElem_set, List.getElem_reverse, List.getElem_reverse, List.getElem_set]
  simp only [List.length_set]
  by_cases e : i = l.length - 1 - j
  · rw [if_pos (by omega), if_pos e]
  · rw [if_neg (by omega), if_neg e]
theorem put_mirQ {s : List (Nat × Int) × List Int} (h : s.2 ≠ []) (x : Int) : put true (mirT s.2.length s) x = mirT s.2.length (put false s x) := by
  unfold put mirT mirQ
  simp only [low_revQ h, mn_revQ h, List.map_append, List.map_cons, List.map_nil, set_revQ (low_lt h)]
theorem fold_mirQ (n : Nat) : ∀ (hs : List Int) (s : List (Nat × Int) × List Int), s.2 ≠ [] → s.2.length = n → hs.foldl (put true) (mirT n s) = mirT n (hs.foldl (put false) s)
  | [], _, _, _ => rfl
  | x :: hs, s, h, e => by
    show hs.foldl (put true) (put true (mirT n s) x) = mirT n (hs.foldl (put false) (put false s x))
    rw [← e, put_mirQ h, e]
    exact fold_mirQ n hs _ (put_ne h) (by show (s.2.set _ _).length = n; rw [List.length_set]; exact e)
theorem play_mirQ {cs : List Int} (h : cs ≠ []) (hs : List Int) : play true cs.reverse hs = mirT cs.length (play false cs hs) := fold_mirQ _ hs ([], cs) h rfl
theorem lay_right {B : Int} {n : Nat} {ts ws : List Int} (hn : 1 ≤ n) (hp : Poss n ts) (hw : IsWay n ts ws) (hB : ∀ t ∈ ts, t < B) (hB0 : 0 < B) :
    (play true (List.replicate n 0) (cow B ts ws)).1 = mirQ n (plc ws ts) := by
  have h := play_mirQ (cs := List.replicate n (0 : Int)) (fun e => by have := congrArg List.length e; rw [List.length_replicate] at this; simp only [List.length_nil] at this; omega) (cow B ts ws)
  rw [List.reverse_replicate, lay_all hn hp hw hB hB0, List.length_replicate] at h
  rw [h]; rfl
theorem plc_tops {ws ts : List Int} (h : ws.length = ts.length) : (plc ws ts).map (·.2) = ts := by
  refine List.ext_getElem? fun i => ?_
  by_cases hi : i < ts.length
  · rw [List.getElem?_map, plc_get h hi, get_of_getD hi]; rfl
  · rw [List.getElem?_eq_none (by rw [List.length_map, plc_len h]; omega), List.getElem?_eq_none (by omega)]
theorem plc_cols {ws ts : List Int} (h : ws.length = ts.length) (h0 : ∀ c ∈ ws, 0 ≤ c) : (plc ws ts).map (fun p => ((p.1 : Nat) : Int)) = ws := by
  refine List.ext_getElem? fun i => ?_
  by_cases hi : i < ts.length
  · have := h0 _ (Lc.getD_mem (show i < ws.length by omega))
    rw [List.getElem?_map, plc_get h hi, get_of_getD (show i < ws.length by omega)]
    show some (((ws.getD i 0).toNat : Nat) : Int) = _
    rw [Int.toNat_of_nonneg this]
  · rw [List.getElem?_eq_none (by rw [List.length_map, plc_len h]; omega), List.getElem?_eq_none (by omega)]
theorem mirQ_tops (n : Nat) (ps : List (Nat × Int)) : (mirQ n ps).map (·.2) = ps.map (·.2) := by unfold mirQ; rw [List.map_map]; rfl
theorem mirQ_cols {n : Nat} {ps : List (Nat × Int)} (h : ∀ p ∈ ps, p.1 < n) : (mirQ n ps).map (fun p => (n : Int) - 1 - ((p.1 : Nat) : Int)) = ps.map (fun p => ((p.1 : Nat) : Int)) := by
  unfold mirQ
  rw [List.map_map]
  refine List.map_congr_left fun p hp => ?_
  have := h p hp
  show (n : Int) - 1 - ((n - 1 - p.1 : Nat) : Int) = ((p.1 : Nat) : Int)
  omega
theorem plc_lt {n : Nat} {ws ts : List Int} (h : ∀ c ∈ ws, 0 ≤ c ∧ c < n) : ∀ p ∈ plc ws ts, p.1 < n := fun p hp => by
  obtain ⟨q, hq, rfl⟩ := List.mem_map.mp hp
  have := h q.1 (List.of_mem_zip hq).1
  show q.1.toNat < n
  omega
end Lc

namespace Lc
open PySem PySem.Spec PyProof.Rows L2
/-- data whose ints have up to 700 signs -/
structure NiceB (d : PyData) : Prop where
  sh : d.showable = true
  nd : d.hasDict = false
  dp : d.depth ≤ 40
  lf : d.leavesShort 700 = true
  bk : d.bulk ≤ 10000
def rReprX (K : PySem.W.Frag) : List V → Hp → VK → Prop := fun xs H Q =>
  (∃ i, xs = [V.int i] ∧ i.natAbs.log2 < 1920 ∧ Q (.str (toString i)) H) ∨ (xs = [V.non] ∧ Q (.str "None") H) ∨ (∃ a d, xs = [V.ref a] ∧ Dp K H (.ref a) d ∧ (Nice d ∨ NiceB d) ∧ Q (.str d.shown) H)
theorem call_repr_X {X : Cx} (hg : X.A.guards = some []) (hu : X.A.units + 64 < cLine) : CallR X (.builtin "repr") (rReprX X.K) := by
  intro pins s σ H xs us Q I r h
  rcases h with ⟨i, rfl, hz, q⟩ | ⟨rfl, q⟩ | ⟨a, d, rfl, hd, n, q⟩
  · obtain ⟨u, rfl, t, rfl⟩ := vals1 r
    exact PySem.P.repr_of_int hz ⟨.str _, H, I.tok _, ⟨_, rfl⟩, q⟩
  · obtain ⟨u, rfl, ru⟩ := vals1 r
    obtain rfl : u = Value.none := ru
    exact PySem.P.repr_of_none ⟨.str _, H, I.tok _, ⟨_, rfl⟩, q⟩
  · rcases n with n | n
    · exact call_repr_D hg hu pins s σ H _ us Q I r ⟨a, d, rfl, hd, n, q⟩
    · obtain ⟨u, rfl, ru⟩ := vals1 r
      obtain rfl : u = Value.ref a := ru
      obtain ⟨as, rd⟩ := Dp.reads I d (.ref a) (.ref a) hd rfl
      refine repr_of_reads' rd n.sh (PyData.noDict_hsm n.nd) hg (by have := n.dp; omega) (fun _ _ e => e) (fun h' v tk hk => ?_) ?_
      · exact ⟨.str d.shown, H, I.kept hk, ⟨_, rfl⟩, q⟩
      · have := PyData.shown_le_bulk 700 (by decide) d n.lf
        have := n.bk
        rw [sizeLine_eq]
        omega
theorem log_small {i : Int} (h : i.natAbs < 2 ^ 1919) : i.natAbs.log2 < 1920 := Nat.lt_trans (PySem.Flt.log2_lt_of (by decide) h) (by decide)
theorem niceB_ints {ns : List Int} (h : ∀ n ∈ ns, n.natAbs < 2 ^ 1919) (hl : ns.length ≤ 300) : NiceB (.list (ns.map PyData.int)) := by
  have a : ∀ l : List Int, (∀ n ∈ l, n.natAbs < 2 ^ 1919) → PyData.showableAll (l.map PyData.int) = true ∧ PyData.canLayAll0 (l.map PyData.int) = true ∧ PyData.depthAll (l.map PyData.int) = 0 ∧ PyData.leavesShortAll 700 (l.map PyData.int) = true ∧ PyData.bulkAll (l.map PyData.int) = l.length := fun l => by
    induction l with
    | nil => intro _; exact ⟨rfl, rfl, rfl, rfl, rfl⟩
    | cons n l ih =>
      intro h
      obtain ⟨a, b, c, d, e⟩ := ih fun x hx => h x (List.mem_cons_of_mem _ hx)
      have hn := h n List.mem_cons_self
      have hs : PyData.showable (.int n) = true := by
        show decide (n.natAbs.log2 < 1920) = true
        exact decide_eq_true (log_small hn)
      have hf : PyData.leavesShort 700 (.int n) = true := by
        simp only [PyData.leavesShort, decide_eq_true_eq]
        have e10 : (2 : Nat) ^ 1919 ≤ 10 ^ 600 := by decide +kernel
        have := int_text_length_le10 (a := n) (k := 600) (by decide) (Nat.lt_of_lt_of_le hn e10)
        show (Str.ofString (toString n)).length ≤ 700
        rw [PySem.ofString_length]
        omega
      refine ⟨?_, ?_, ?_, ?_, ?_⟩
      · simp only [List.map_cons, PyData.showableAll, hs, a, Bool.and_self]
      · simp only [List.map_cons, PyData.canLayAll0, PyData.canLay0, b, Bool.and_self]
      · simp only [List.map_cons, PyData.depthAll, PyData.depth, c]; rfl
      · simp only [List.map_cons, PyData.leavesShortAll, hf, d, Bool.and_self]
      · simp only [List.map_cons, PyData.bulkAll, PyData.bulk, e, List.length_cons]; omega
  obtain ⟨a, b, c, d, e⟩ := a ns h
  refine ⟨by simpa only [PyData.showable] using a, PyData.hasDict_of_canLay _ (by simpa only [PyData.canLay0] using b), ?_, by simpa only [PyData.leavesShort] using d, ?_⟩
  · simp only [PyData.depth, c]; decide
  · simp only [PyData.bulk, e]; omega
/-! ### binomials, numbers of ways -/
def binRow (n : Nat) : List Int := (List.range (n + 1)).map fun k => ((bin n k : Nat) : Int)
theorem binRow_len (n : Nat) : (binRow n).length = n + 1 := by unfold binRow; rw [List.length_map, List.length_range]
theorem binRow_get {n k : Nat} (h : k ≤ n) : (binRow n)[k]? = some ((bin n k : Nat) : Int) := by
  unfold binRow
  rw [List.getElem?_map, List.getElem?_range (by omega)]; rfl
theorem binRow_step {n i : Nat} {x y : Int} (hx : (0 :: binRow n)[i]? = some x) (hy : (binRow n ++ [0])[i]? = some y) : (binRow (n + 1))[i]? = some (x + y) := by
  have hi : i < n + 2 := by have := get_lt hx; rw [List.length_cons, binRow_len] at this; omega
  rw [binRow_get (by omega)]
  cases i with
  | zero =>
    obtain rfl : 0 = x := Option.some.inj hx
    rw [List.getElem?_append_left (by rw [binRow_len]; omega), binRow_get (by omega)] at hy
    obtain rfl := Option.some.inj hy
    rw [bin_zero, bin_zero]; rfl
  | succ k =>
    have hx' : (binRow n)[k]? = some x := hx
    rw [binRow_get (by omega)] at hx'
    obtain rfl := Option.some.inj hx'
    rw [bin_succ]
    rcases Nat.lt_or_ge k n with h | h
    · rw [List.getElem?_append_left (by rw [binRow_len]; omega), binRow_get (by omega)] at hy
      obtain rfl := Option.some.inj hy
      rw [Int.natCast_add]
    · have : k = n := by omega
      subst this
      rw [List.getElem?_append_right (by rw [binRow_len]; exact Nat.le_refl _), binRow_len, Nat.sub_self] at hy
      obtain rfl : 0 = y := Option.some.inj hy
      rw [bin_le k (k + 1) (by omega)]; rfl
theorem bin_pow : ∀ n k, k ≤ n → bin n k ≤ n ^ k
  | n, 0, _ => by rw [bin_zero]; exact Nat.le_refl 1
  | 0, k + 1, h => absurd h (by omega)
  | n + 1, k + 1, h => by
    rw [bin_succ]
    have h1 := bin_pow n k (by omega)
    have h2 : bin n (k + 1) ≤ n * n ^ k := by
      rcases Nat.lt_or_ge n (k + 1) with hl | hl
      · rw [bin_le n (k + 1) hl]; exact Nat.zero_le _
      · have := bin_pow n (k + 1) hl
        rw [Nat.pow_succ, Nat.mul_comm] at this; exact this
    have h3 : n ^ k ≤ (n + 1) ^ k := Nat.pow_le_pow_left (by omega) k
    calc bin n k + bin n (k + 1) ≤ n ^ k + n * n ^ k := Nat.add_le_add h1 h2
      _ = (n + 1) * n ^ k := by rw [Nat.add_mul, Nat.one_mul, Nat.add_comm]
      _ ≤ (n + 1) * (n + 1) ^ k := Nat.mul_le_mul_left _ h3
      _ = (n + 1) ^ (k + 1) := by rw [Nat.pow_succ, Nat.mul_comm]
theorem cnt_pow {n : Nat} : ∀ (l : List Nat), (∀ s ∈ l, s ≤ n) → cntW n l ≤ n ^ l.sum := snocN_ind (fun _ => Nat.le_refl 1) fun l s ih h => by
  rw [cntW_snoc, List.sum_append]
  simp only [List.sum_cons, List.sum_nil, Nat.add_zero]
  rw [Nat.pow_add]
  exact Nat.mul_le_mul (ih fun x hx => h x (List.mem_append_left _ hx)) (bin_pow n s (h s (List.mem_append_right _ (List.mem_singleton.mpr rfl))))
theorem pow_fits {n k : Nat} (hn : n ≤ 30) (hk : k ≤ 200) : n ^ k < 2 ^ 1000 := by
  have e : (30 : Nat) ^ 200 < 2 ^ 1000 := by decide +kernel
  exact Nat.lt_of_le_of_lt (Nat.le_trans (Nat.pow_le_pow_left hn k) (Nat.pow_le_pow_right (by decide) hk)) e
theorem rl_strict : ∀ l : List Int, l.Pairwise (· < ·) → (rl l).map (·.2) = List.replicate l.length 1 := snoc_ind (fun _ => rfl) fun l x ih h => by
  have h' := List.pairwise_append.mp h
  rw [sizes_new fun y hy => ?_, ih h'.1, List.length_append]
  · show List.replicate l.length 1 ++ [1] = List.replicate (l.length + 1) 1
    rw [List.replicate_succ']
  · have := h'.2.2 y (List.mem_of_getLast? hy) x (List.mem_singleton.mpr rfl)
    omega
theorem cnt_ones (n : Nat) : ∀ k, cntW n (List.replicate k 1) = n ^ k
  | 0 => rfl
  | k + 1 => by rw [List.replicate_succ', cntW_snoc, cnt_ones n k, bin_one, Nat.pow_succ]
theorem rl_same (v : Int) : ∀ k, (rl (List.replicate (k + 1) v)).map (·.2) = [k + 1]
  | 0 => rfl
  | k + 1 => by
    rw [List.replicate_succ', sizes_same (y := v) (by rw [List.replicate_succ', List.getLast?_append]; rfl) rfl, rl_same v k]; rfl
theorem cnt_same (n k : Nat) (v : Int) : cntW n ((rl (List.replicate k v)).map (·.2)) = bin n k := by
  cases k with
  | zero => rw [bin_zero]; rfl
  | succ k => rw [rl_same]; show 1 * bin n (k + 1) = _; rw [Nat.one_mul]
/-- zeros, then 1, 2, .. -/
def rise (n k : Nat) : List Int := List.replicate n 0 ++ (List.range k).map fun j => ((j : Nat) : Int) + 1
theorem rise_len (n k : Nat) : (rise n k).length = n + k := by unfold rise; rw [List.length_append, List.length_replicate, List.length_map, List.length_range]
theorem rise_at {n k i : Nat} (h : i < n + k) : (rise n k).getD i 0 = if i < n then 0 else (((i - n : Nat) : Int) + 1) := by
  rw [List.getD_eq_getElem?_getD]
  unfold rise
  by_cases hi : i < n
  · rw [if_pos hi, List.getElem?_append_left (by rw [List.length_replicate]; exact hi), List.getElem?_replicate, if_pos hi]; rfl
  · rw [if_neg hi, List.getElem?_append_right (by rw [List.length_replicate]; omega), List.length_replicate, List.getElem?_map, List.getElem?_range (by omega)]; rfl
theorem rise_poss {n k : Nat} (hn : 1 ≤ n) : Poss n (rise n k) := fun i hi => by
  rw [rise_len] at hi
  unfold okAt
  rw [rise_at hi]
  by_cases h : i < n
  · rw [if_pos h, if_pos h]; rfl
  · rw [if_neg h, if_neg h, rise_at (show i - 1 < n + k by omega), rise_at (show i - n < n + k by omega), Bool.and_eq_true_iff]
    constructor <;> refine decide_eq_true ?_ <;> split <;> omega
theorem rise_count {n k : Nat} : countW n (rise n k) = n ^ k := by
  unfold countW
  rw [show szs n (rise n k) = List.replicate k 1 by
    unfold rise
    rw [szs_zeros, rl_strict]
    · rw [List.length_map, List.length_range]
    · rw [List.pairwise_map]
      exact List.pairwise_lt_range.imp fun h => by omega]
  exact cnt_ones n k
theorem rise_tops {n k : Nat} (h : n + k ≤ 200) : IsTops (rise n k) := ⟨by rw [rise_len]; exact h, fun t ht => by
  unfold rise at ht
  rcases List.mem_append.mp ht with ht | ht
  · rw [(List.mem_replicate.mp ht).2]; decide
  · obtain ⟨j, hj, rfl⟩ := List.mem_map.mp ht
    have := List.mem_range.mp hj
    omega⟩
end Lc

namespace Lc
open PySem PySem.Spec PyProof.Rows L2
/-! ### spans of cards -/
/-- column, top, bottom of each card -/
def spn (cs hs : List Int) : List (Nat × Int × Int) := ((play false cs hs).1.zip hs).map fun q => (q.1.1, q.1.2, q.1.2 + q.2)
theorem spn_len (cs hs : List Int) : (spn cs hs).length = hs.length := by
  unfold spn
  rw [List.length_map, List.length_zip, play_len, Nat.min_self]
theorem spn_snoc (cs hs : List Int) (h : Int) : spn cs (hs ++ [h]) = spn cs hs ++ [(low false (play false cs hs).2, mn (play false cs hs).2, mn (play false cs hs).2 + h)] := by
  unfold spn
  rw [play_snoc]
  show ((((play false cs hs).1 ++ [(low false (play false cs hs).2, mn (play false cs hs).2)]).zip (hs ++ [h])).map _) = _
  rw [List.zip_append (play_len false cs hs), List.map_append]; rfl
theorem spn_take {cs hs : List Int} {i : Nat} {h : Int} (e : hs[i]? = some h) : spn cs (hs.take (i + 1)) = spn cs (hs.take i) ++ [(low false (play false cs (hs.take i)).2, mn (play false cs (hs.take i)).2, mn (play false cs (hs.take i)).2 + h)] := by
  rw [List.take_add_one, e]
  exact spn_snoc _ _ _
theorem spn_at {cs hs : List Int} {i : Nat} {q : Nat × Int} {h : Int} (e1 : (play false cs hs).1[i]? = some q) (e2 : hs[i]? = some h) : (spn cs hs)[i]? = some (q.1, q.2, q.2 + h) := by
  unfold spn
  rw [List.getElem?_map, show ((play false cs hs).1.zip hs)[i]? = some (q, h) from List.getElem?_zip_eq_some.mpr ⟨e1, e2⟩]; rfl
theorem spn_tops (cs hs : List Int) : (spn cs hs).map (fun p => p.2.1) = tops cs hs := by
  unfold spn tops
  rw [List.map_map]
  have : ∀ (a : List (Nat × Int)) (b : List Int), a.length = b.length → (a.zip b).map ((fun p : Nat × Int × Int => p.2.1) ∘ fun q : (Nat × Int) × Int => (q.1.1, q.1.2, q.1.2 + q.2)) = a.map (·.2) := fun a => by
    induction a with
    | nil => intro b h; rfl
    | cons x a ih =>
      intro b h
      cases b with
      | nil => cases h
      | cons y b =>
        show x.2 :: _ = x.2 :: _
        exact congrArg (x.2 :: ·) (ih b (by simpa using h))
  exact this _ _ (play_len false cs hs)
theorem spn_top {cs hs : List Int} {i : Nat} {p : Nat × Int × Int} (e : (spn cs hs)[i]? = some p) : (tops cs hs).getD i 0 = p.2.1 := by
  rw [← spn_tops, List.getD_eq_getElem?_getD, List.getElem?_map, e]; rfl
theorem spn_sum {cs hs : List Int} {i : Nat} {p : Nat × Int × Int} {h : Int} (e : (spn cs hs)[i]? = some p) (e2 : hs[i]? = some h) : p.2.2 = p.2.1 + h := by
  have hi := get_lt e2
  have e1 : (play false cs hs).1[i]? = some ((play false cs hs).1[i]'(by rw [play_len]; exact hi)) := List.getElem?_eq_getElem _
  rw [spn_at e1 e2] at e
  rw [← Option.some.inj e]
theorem spn_col {cs hs : List Int} (hne : cs ≠ []) {p : Nat × Int × Int} (h : p ∈ spn cs hs) : p.1 < cs.length := by
  unfold spn at h
  obtain ⟨q, hq, rfl⟩ := List.mem_map.mp h
  exact play_lt hne q.1 (List.of_mem_zip hq).1
theorem tops_in {cs hs : List Int} (hne : cs ≠ []) (hc : ∀ c ∈ cs, 0 ≤ c ∧ c ≤ 1000000000000000000000000000000) (hh : ∀ h ∈ hs, 1 ≤ h ∧ h ≤ 1000000000000000000000000000000) (hl : hs.length ≤ 200) :
    (∀ c ∈ (play false cs hs).2, 0 ≤ c ∧ c ≤ 1000000000000000000000000000000000) ∧ ∀ t ∈ tops cs hs, 0 ≤ t ∧ t ≤ 1000000000000000000000000000000000 := by
  have q := fold_high false 1000000000000000000000000000000 hs ([], cs) 1000000000000000000000000000000 hne (fun h hm => by have := hh h hm; omega) hc (fun t ht => by cases ht) (by decide)
  have hb : 1000000000000000000000000000000 + (hs.length : Int) * 1000000000000000000000000000000 ≤ 1000000000000000000000000000000000 := by omega
  exact ⟨fun c h => by have := q.1 c h; exact ⟨this.1, Int.le_trans this.2 hb⟩, fun t h => by have := q.2 t h; exact ⟨this.1, Int.le_trans this.2 hb⟩⟩
/-- the spans as they lie on the heap -/
def Tri (H : Hp) (l : List V) (ts : List (Nat × Int × Int)) : Prop := l.length = ts.length ∧ ∀ (i : Nat) (v : V) (p : Nat × Int × Int), l[i]? = some v → ts[i]? = some p → ∃ q, v = .ref q ∧ H q = some (.tup [.int (p.1 : Nat), .int p.2.1, .int p.2.2])
theorem Tri.nil {H : Hp} : Tri H [] [] := ⟨rfl, fun i v p e => by cases e⟩
theorem Tri.same {H H' : Hp} {l : List V} {ps : List (Nat × Int × Int)} (h : Tri H l ps) (s : Same H H') : Tri H' l ps := ⟨h.1, fun i v p e1 e2 => by
  obtain ⟨q, e, hq⟩ := h.2 i v p e1 e2
  exact ⟨q, e, s _ _ hq⟩⟩
theorem Tri.but {H H' : Hp} {a : Addr} {l : List V} {ps : List (Nat × Int × Int)} (h : Tri H l ps) (n : ∀ xs, H a ≠ some (.tup xs)) (s : But a H H') : Tri H' l ps := ⟨h.1, fun i v p e1 e2 => by
  obtain ⟨q, e, hq⟩ := h.2 i v p e1 e2
  exact ⟨q, e, s _ _ (fun z => n _ (z ▸ hq)) hq⟩⟩
theorem Tri.snoc {H : Hp} {l : List V} {ps : List (Nat × Int × Int)} {q : Addr} {p : Nat × Int × Int} (h : Tri H l ps) (hq : H q = some (.tup [.int (p.1 : Nat), .int p.2.1, .int p.2.2])) : Tri H (l ++ [.ref q]) (ps ++ [p]) := by
  refine ⟨by rw [List.length_append, List.length_append, h.1]; rfl, fun i v p' e1 e2 => ?_⟩
  by_cases hi : i < l.length
  · rw [List.getElem?_append_left hi] at e1
    rw [List.getElem?_append_left (by rw [← h.1]; exact hi)] at e2
    exact h.2 i v p' e1 e2
  · rw [List.getElem?_append_right (by omega)] at e1
    rw [List.getElem?_append_right (by rw [← h.1]; omega), ← h.1] at e2
    cases hk : i - l.length with
    | zero =>
      rw [hk] at e1 e2
      cases e1
      cases e2
      exact ⟨q, rfl, hq⟩
    | succ k => rw [hk] at e1; cases e1
/-- a comprehension over triples -/
theorem tri_lc {K : PySem.W.Frag} {a D : Addr} {l : List V} {ps : List (Nat × Int × Int)} {te : TE} {i j m : Nat} {vs : List Nat} {σ : L2.St} {H : Hp} {Qd : Hp → Prop} (fn : Nat × Int × Int → Int) (ha : H a = some (.lst l)) (hP : Tri H l ps) (hl : ps.length ≤ 1000) (nD : H D = none)
    (hw : ∀ u v x, wipe ((((wipe σ vs).set i (some u)).set j (some v)).set m (some x)) vs = wipe σ vs) (ht : ∀ p ∈ ps, ∀ (H' : Hp) (Q : VK), Q (.int (fn p)) H' → te ((((wipe σ vs).set i (some (.int (p.1 : Nat)))).set j (some (.int p.2.1))).set m (some (.int p.2.2))) H' Q)
    (k : ∀ H', Same H H' → H' D = some (.lst ((ps.map fn).map V.int)) → Qd H') :
    ∃ W : Nat → Nat → Hp → Prop, (∃ m, W 0 m (upd H D (.lst []))) ∧ ∀ i' m' H, W i' m' H →
      ((Itl K a).stop i' H ∧ Qd H) ∨ ((Itl K a).go i' H ∧ ∃ Nx : Hp → Prop, (∀ H', Nx H' → ∃ m'', m'' < m' ∧ W (i' + 1) m'' H') ∧ ∀ x H', (Itl K a).yld i' H x H' → (gTup K 3 (gCons (gName i) (gCons (gName j) (gCons (gName m) gNil)))) x (wipe σ vs) H' fun σ2 H2 => wipe σ2 vs = wipe σ vs ∧ tYes σ2 H2 fun b H3 =>
        if b = true then te σ2 H3 fun y H4 => ∃ acc, H4 D = some (.lst acc) ∧ acc.length < sizeLine ∧ Nx (upd H4 D (.lst (acc ++ [y]))) else Nx H3) := by
  refine lc_list (K := K) (a := a) (xs := l) (fun i H' => Same H H' ∧ H' D = some (.lst (((ps.map fn).take i).map V.int))) ⟨same_new _ nD, upd_same⟩ (fun i H' _ h => SqL.of (h.1 _ _ ha)) (fun k' x H' e h => ?_) (fun H' h => ?_)
  · obtain ⟨sm, eD⟩ := h
    have il : k' < ps.length := by rw [← hP.1]; exact get_lt e
    have ep := List.getElem?_eq_getElem il
    obtain ⟨z, rfl, hz⟩ := hP.2 k' x _ e ep
    refine ⟨z, [_, _, _], rfl, SqT.of (sm _ _ hz), rfl, _, [_, _], rfl, _, [_], rfl, _, [], rfl, rfl, hw _ _ _, ?_⟩
    show te _ H' _
    refine ht ps[k'] (List.mem_of_getElem? ep) _ _ ⟨_, eD, ?_, same_set sm nD, ?_⟩
    · rw [List.length_map, List.length_take, List.length_map]; exact small_of (m := 1000) (by omega) (by decide)
    · rw [upd_same]
      refine congrArg (fun z => some (HO.lst z)) (take_map_succ V.int ?_)
      rw [List.getElem?_map, ep]; rfl
  · obtain ⟨sm, eD⟩ := h
    have e1 : l.length = (ps.map fn).length := by rw [List.length_map]; exact hP.1
    rw [e1, List.take_length] at eD
    exact k H' sm eD
/-- the numbers of the spans that a test takes -/
def pick (p : Nat × Int × Int → Bool) (ts : List (Nat × Int × Int)) : List Nat := (List.range ts.length).filter fun i => p (ts.getD i (0, 0, 0))
theorem pick_snoc (p : Nat × Int × Int → Bool) {ts : List (Nat × Int × Int)} {i : Nat} {x : Nat × Int × Int} (e : ts[i]? = some x) : pick p (ts.take (i + 1)) = pick p (ts.take i) ++ (if p x = true then [i] else []) := by
  have hi := get_lt e
  unfold pick
  have l1 : (ts.take (i + 1)).length = i + 1 := by rw [List.length_take]; omega
  have l0 : (ts.take i).length = i := by rw [List.length_take]; omega
  rw [l1, l0, List.range_succ, List.filter_append]
  congr 1
  · refine List.filter_congr fun j hj => ?_
    have hj := List.mem_range.mp hj
    rw [List.getD_eq_getElem?_getD, List.getD_eq_getElem?_getD, List.getElem?_take_of_lt (by omega), List.getElem?_take_of_lt hj]
  · rw [List.filter_cons, List.getD_eq_getElem?_getD, List.getElem?_take_of_lt (by omega), e]
    show (if p x = true then _ else _) = _
    by_cases h : p x = true
    · rw [if_pos h, if_pos h]; rfl
    · rw [if_neg h, if_neg h]; rfl
theorem pick_len (p : Nat × Int × Int → Bool) (ts : List (Nat × Int × Int)) : (pick p ts).length ≤ ts.length := by
  unfold pick
  refine Nat.le_trans (List.length_filter_le _ _) ?_
  rw [List.length_range]; exact Nat.le_refl _
/-- a comprehension over enumerate of triples, with a test: the numbers -/
theorem pick_lc {K : PySem.W.Frag} {a D : Addr} {l : List V} {ts : List (Nat × Int × Int)} {g : TG} {tt : TT} {te : TE} {vs : List Nat} {σ : L2.St} {H : Hp} {Qd : Hp → Prop} (p : Nat × Int × Int → Bool) (ha : H a = some (.lst l)) (hP : Tri H l ts) (hl : ts.length ≤ 1000) (nD : H D = none)
    (hs : ∀ (i : Nat) (x : Nat × Int × Int) (q Tp : Addr) (H' : Hp), H' Tp = some (.tup [.int (i : Nat), .ref q]) → H' q = some (.tup [.int (x.1 : Nat), .int x.2.1, .int x.2.2]) → ∀ R : L2.St → Hp → Prop,
      (∀ σ2, wipe σ2 vs = wipe σ vs → (∀ (k : Bool → Hp → Prop), k (p x) H' → tt σ2 H' k) → (∀ Q : VK, Q (.int (i : Nat)) H' → te σ2 H' Q) → R σ2 H') → g (.ref Tp) (wipe σ vs) H' R)
    (k : ∀ H', Same H H' → H' D = some (.lst ((nat2 (pick p ts)).map V.int)) → Qd H') :
    ∃ W : Nat → Nat → Hp → Prop, (∃ m, W 0 m (upd H D (.lst []))) ∧ ∀ i m H, W i m H →
      (((Ite K a).stop i H ∧ Qd H) ∨ ((Ite K a).go i H ∧ ∃ Nx : Hp → Prop, (∀ H', Nx H' → ∃ m', m' < m ∧ W (i + 1) m' H') ∧
        ∀ x H', (Ite K a).yld i H x H' → g x (wipe σ vs) H' fun σ2 H2 => wipe σ2 vs = wipe σ vs ∧ tt σ2 H2 fun b H3 =>
          if b = true then te σ2 H3 fun y H4 => ∃ acc, H4 D = some (.lst acc) ∧ acc.length < sizeLine ∧ Nx (upd H4 D (.lst (acc ++ [y]))) else Nx H3)) := by
  refine lc_enum (K := K) (a := a) (xs := l) (fun i H' => Same H H' ∧ H' D = some (.lst ((nat2 (pick p (ts.take i))).map V.int))) ⟨same_new _ nD, upd_same⟩ (fun i H' _ h => SqL.of (h.1 _ _ ha)) (fun i v H' T e h nT => ?_) (fun H' h => ?_)
  · obtain ⟨sm, eD⟩ := h
    have il : i < ts.length := by rw [← hP.1]; exact get_lt e
    have ep := List.getElem?_eq_getElem il
    obtain ⟨z, rfl, hz⟩ := hP.2 i v _ e ep
    have sT := same_new (H := H') (p := T) (.tup [.int (i : Nat), .ref z]) nT
    refine hs i ts[i] z T _ upd_same (sT _ _ (sm _ _ hz)) _ fun σ2 hw htt hte => ⟨hw, htt _ ?_⟩
    have st := pick_snoc p ep
    have S1 := sm.trans sT
    have eD1 := sT _ _ eD
    by_cases hp : p ts[i] = true
    · rw [if_pos hp] at st
      refine ite_t hp (hte _ ⟨_, eD1, ?_, same_set S1 nD, ?_⟩)
      · rw [List.length_map]
        unfold nat2
        rw [List.length_map]
        have := pick_len p (ts.take i)
        rw [List.length_take] at this
        exact small_of (m := 1000) (by omega) (by decide)
      · rw [upd_same, st, nat2_append, List.map_append]; rfl
    · rw [if_neg hp, List.append_nil] at st
      exact ite_f hp ⟨S1, by rw [st]; exact eD1⟩
  · obtain ⟨sm, eD⟩ := h
    rw [hP.1, List.take_length] at eD
    exact k H' sm eD
end Lc

namespace Lc
open PySem PySem.Spec PyProof.Rows L2
/-- a list that is read, + a list -/
def rCatR (K : PySem.W.Frag) : R2 := fun x y H Q => ∃ l b xs zs, x = .ref l ∧ y = .ref b ∧ SqL K H l xs ∧ SqL K H b zs ∧ xs.length + zs.length ≤ sizeLine ∧ ∀ p, H p = none → Q (.ref p) (upd H p (.lst (xs ++ zs)))
theorem op_catR {X : Cx} : OpR X (binaryOp .Add) (rCatR X.K) := by
  intro pins s σ H x y v u Q I rx ry h
  obtain ⟨l, b, xs, zs, rfl, rfl, hH, hB, hz, q⟩ := h
  cases rx
  cases ry
  obtain ⟨its, r, ⟨⟨cls, dd, data, sl⟩, n, e, hc, hd, hs⟩, hl⟩ := I.list hH
  obtain ⟨its2, r2, ⟨⟨cls2, dd2, data2, sl2⟩, n2, e2, hc2, hd2, hs2⟩, hl2⟩ := I.list hB
  simp only at hc hd hs hc2 hd2 hs2
  subst hc hd hs hc2 hd2 hs2
  have l1 := r.length
  have l2 := r2.length
  have ea : its.toArray ++ its2.toArray = (its ++ its2).toArray := by simp
  refine concat_meets ⟨_, e, rfl⟩ ⟨_, e2, rfl⟩ noFill_list_add seq_list_add PySem.F.slot_list_add PySem.F.entry_list_add (PySem.F.args_list_add_2 _ _) (list_addW l b its.toArray its2.toArray n n2 _ _ sl sl2 (by rw [List.size_toArray, List.size_toArray]; omega)) ⟨e, e2, ?_⟩
  rw [ea]
  exact ⟨.ref _, _, I.lnew (t' := s.toks) (r.append r2) (by rw [List.length_append]; omega), rfl, q _ I.fresh⟩
end Lc

namespace Lc
open PySem PySem.Spec PyProof.Rows L2
/-! any value: scalars, lists and tuples of ints, an empty dict; and lists of these -/
/-- a short text -/
def ShortS (x : Str) : Prop := x.cps.size ≤ 200 ∧ ∀ c ∈ x.cps.toList, c < 16 ^ 8
inductive Sv (H : Hp) : V → PyData → Prop where
  | non : Sv H .non .none
  | bl (b : Bool) : Sv H (.bl b) (.bool b)
  | int (i : Int) (h : i.natAbs < 10 ^ 90) : Sv H (.int i) (.int i)
  | one {x : Str} (h : ShortS x := by exact ⟨by decide, by decide⟩) : Sv H (.str x) (.str x)
  | tupB {a : Addr} (b : Bool) (e : H a = some (.tup [.bl b])) : Sv H (.ref a) (.tuple [.bool b])
  | lst {a : Addr} {ns : List Int} (e : H a = some (.lst (ns.map V.int))) (h : ∀ n ∈ ns, n.natAbs < 10 ^ 90) (hl : ns.length ≤ 300) : Sv H (.ref a) (.list (ns.map PyData.int))
  | tup {a : Addr} {ns : List Int} (e : H a = some (.tup (ns.map V.int))) (h : ∀ n ∈ ns, n.natAbs < 10 ^ 90) (hl : ns.length ≤ 300) : Sv H (.ref a) (.tuple (ns.map PyData.int))
  | dct {a : Addr} (e : H a = some (.dK [])) : Sv H (.ref a) (.dict [])
inductive SvAll (H : Hp) : List V → List PyData → Prop where
  | nil : SvAll H [] []
  | cons {x : V} {d : PyData} {xs : List V} {ds : List PyData} : Sv H x d → SvAll H xs ds → SvAll H (x :: xs) (d :: ds)
inductive Th (H : Hp) : V → PyData → Prop where
  | sv {x : V} {d : PyData} (h : Sv H x d) : Th H x d
  | row {a : Addr} {xs : List V} {ds : List PyData} (e : H a = some (.lst xs)) (h : SvAll H xs ds) (hl : xs.length ≤ 300) : Th H (.ref a) (.list ds)
theorem Sv.same {H H' : Hp} {x : V} {d : PyData} (h : Sv H x d) (s : Same H H') : Sv H' x d := by
  cases h with
  | non => exact .non
  | bl b => exact .bl b
  | int i h => exact .int i h
  | one h => exact .one h
  | tupB b e => exact .tupB b (s _ _ e)
  | lst e h hl => exact .lst (s _ _ e) h hl
  | tup e h hl => exact .tup (s _ _ e) h hl
  | dct e => exact .dct (s _ _ e)
theorem SvAll.same {H H' : Hp} (s : Same H H') : ∀ {xs : List V} {ds : List PyData}, SvAll H xs ds → SvAll H' xs ds
  | _, _, .nil => .nil
  | _, _, .cons h hs => .cons (h.same s) (SvAll.same s hs)
theorem Th.same {H H' : Hp} {x : V} {d : PyData} (h : Th H x d) (s : Same H H') : Th H' x d := by
  cases h with
  | sv h => exact .sv (h.same s)
  | row e h hl => exact .row (s _ _ e) (h.same s) hl
theorem SvAll.len {H : Hp} : ∀ {xs : List V} {ds : List PyData}, SvAll H xs ds → ds.length = xs.length
  | _, _, .nil => rfl
  | _, _, .cons _ hs => by rw [List.length_cons, List.length_cons, SvAll.len hs]
/-- what repr asks of the data -/
structure Sh (k N : Nat) (d : PyData) : Prop where
  sh : d.showable = true
  dp : d.depth ≤ k
  lf : d.leavesShort 100 = true
  bk : d.bulk ≤ N
theorem Nc.toSh {k N : Nat} {d : PyData} (h : Nc k N d) : Sh k N d := ⟨h.sh, h.dp, h.lf, h.bk⟩
theorem Sh.mono {k N k' N' : Nat} {d : PyData} (h : Sh k N d) (h1 : k ≤ k') (h2 : N ≤ N') : Sh k' N' d := ⟨h.sh, Nat.le_trans h.dp h1, h.lf, Nat.le_trans h.bk h2⟩
theorem sh_all {k N : Nat} : ∀ {ds : List PyData}, (∀ d ∈ ds, Sh k N d) → PyData.showableAll ds = true ∧ PyData.depthAll ds ≤ k ∧ PyData.leavesShortAll 100 ds = true ∧ PyData.bulkAll ds ≤ ds.length * (N + 1)
  | [], _ => ⟨rfl, Nat.zero_le _, rfl, Nat.zero_le _⟩
  | d :: ds, h => by
    have h1 := h d List.mem_cons_self
    obtain ⟨a, c, e, f⟩ := sh_all fun x hx => h x (List.mem_cons_of_mem d hx)
    refine ⟨?_, ?_, ?_, ?_⟩
    · simp only [PyData.showableAll, h1.sh, a, Bool.and_self]
    · simp only [PyData.depthAll]
      exact Nat.max_le.mpr ⟨h1.dp, c⟩
    · simp only [PyData.leavesShortAll, h1.lf, e, Bool.and_self]
    · simp only [PyData.bulkAll, List.length_cons]
      have := h1.bk
      rw [Nat.add_mul]
      omega
theorem sh_list {k N : Nat} {ds : List PyData} (h : ∀ d ∈ ds, Sh k N d) : Sh (k + 1) (ds.length * (N + 1)) (.list ds) := by
  obtain ⟨a, c, e, f⟩ := sh_all h
  refine ⟨by simpa only [PyData.showable] using a, ?_, by simpa only [PyData.leavesShort] using e, by simpa only [PyData.bulk] using f⟩
  simp only [PyData.depth]
  omega
theorem Sv.shd {H : Hp} {x : V} {d : PyData} (h : Sv H x d) : Sh 1 301 d := by
  cases h with
  | non => exact ⟨rfl, by decide, rfl, by decide⟩
  | bl b => cases b <;> exact ⟨rfl, by decide, rfl, by decide⟩
  | int i h => exact (nc_int h).toSh.mono (by decide) (by decide)
  | one h => exact ⟨rfl, by simp only [PyData.depth]; decide, by simpa only [PyData.leavesShort, List.all_eq_true, decide_eq_true_eq] using h.2, by simp only [PyData.bulk]; exact Nat.le_trans h.1 (by decide)⟩
  | tupB b e => cases b <;> exact ⟨rfl, by decide, rfl, by decide⟩
  | lst e h hl => exact (nc_ints h hl).toSh.mono (by decide) (by decide)
  | tup e h hl =>
    rename_i ns
    have q := nc_tup (k := 0) (N := 0) (ds := ns.map PyData.int) fun d hd => by
      obtain ⟨n, hn, rfl⟩ := List.mem_map.mp hd
      exact nc_int (h n hn)
    rw [List.length_map] at q
    exact q.toSh.mono (by decide) (by omega)
  | dct e => exact ⟨by decide, by decide, by decide, by decide⟩
theorem SvAll.shd {H : Hp} : ∀ {xs : List V} {ds : List PyData}, SvAll H xs ds → ∀ d ∈ ds, Sh 1 301 d
  | _, _, .nil, d, hd => by cases hd
  | _, _, .cons h hs, d, hd => by
    rcases List.mem_cons.mp hd with rfl | hd
    · exact h.shd
    · exact SvAll.shd hs d hd
theorem Th.shd {H : Hp} {x : V} {d : PyData} (h : Th H x d) : Sh 2 90600 d := by
  cases h with
  | sv h => exact h.shd.mono (by decide) (by decide)
  | row e h hl =>
    refine (sh_list h.shd).mono (by decide) ?_
    rw [h.len]
    have := Nat.mul_le_mul_right 302 hl
    omega
theorem Sh.short {k N : Nat} {d : PyData} (h : Sh k N d) (hN : N ≤ 100000) : d.shown.length ≤ sizeLine := by
  have := PyData.shown_le_bulk 100 (by decide) d h.lf
  have := h.bk
  rw [sizeLine_eq]
  omega
section
variable {X : Cx} {pins : List (Addr × Obj)} {σ : L2.St} {H : Hp} {s : Shared}
theorem ints_read {h : Heap} : ∀ {ns : List Int} {us : List Value}, Vals (ns.map V.int) us → ReadsAll h us (ns.map PyData.int) []
  | [], _, r => by cases r; exact .nil
  | n :: ns, _, r => by
    cases r with
    | cons r1 r2 =>
      obtain ⟨t, rfl⟩ := r1
      exact ReadsAll.cons (as := []) (bs := []) (.int n t) (ints_read r2)
theorem Sv.reads (I : Inv X pins σ H s) {x : V} {d : PyData} {u : Value} (h : Sv H x d) (r : RelV x u) : ∃ as, Reads s.heap u d as ∧ (d.hasDict = true → sysModules ∉ as) := by
  cases h with
  | non => cases r; exact ⟨_, .none, fun _ => by simp⟩
  | bl b => cases r; exact ⟨_, .bool b, fun _ => by simp⟩
  | int i h => obtain ⟨t, rfl⟩ := r; exact ⟨_, .int i t, fun _ => by simp⟩
  | one h => obtain ⟨t, rfl⟩ := r; exact ⟨_, .str _ t, fun _ => by simp⟩
  | tupB b e =>
    cases r
    obtain ⟨its, rv, ⟨o, ho, hc, n, hd⟩, _⟩ := I.tuple (SqT.of e)
    cases rv with
    | cons r1 r2 =>
      cases r2
      cases r1
      exact ⟨_, Reads.tuple ho hc hd (.cons (.bool b) .nil), fun _ => by simp⟩
  | lst e h hl =>
    cases r
    obtain ⟨its, rv, ⟨o, n, ho, hc, _, hd⟩, _⟩ := I.list (SqL.of e)
    exact ⟨_, Reads.list ho hc hd (ints_read rv), PyData.noDict_hsm (PyData.hasDict_of_canLay _ (nc_ints h hl).cl)⟩
  | tup e h hl =>
    cases r
    obtain ⟨its, rv, ⟨o, ho, hc, n, hd⟩, _⟩ := I.tuple (SqT.of e)
    exact ⟨_, Reads.tuple ho hc hd (ints_read rv), fun _ => by simp⟩
  | @dct a e =>
    cases r
    obtain ⟨_, ha, vs, kv, o, es, ep, ho, hx, hd, hk, hp, _⟩ := dk_of I.hok e
    cases kv
    have e0 : es.toList = [] := by
      cases hl : es.toList with
      | nil => rfl
      | cons y ys => rw [hl] at hp; cases hp
    refine ⟨_, Reads.dict (as := []) (bs := []) ho hx.1 hd (by rw [e0]; exact .nil) (by rw [e0]; exact .nil), fun _ hm => ?_⟩
    have : sysModules = a := by simpa using hm
    rw [this] at ha
    simp at ha
theorem SvAll.reads (I : Inv X pins σ H s) : ∀ {xs : List V} {ds : List PyData} {us : List Value}, SvAll H xs ds → Vals xs us → (∀ t ∈ PyData.shownAll ds, t.length ≤ sizeLine) →
    ∃ as bs, ReadsAll s.heap us ds as ∧ ReadAtMost s.heap (PyData.depthAll ds) bs ∧ ReprAllK X.prog X.w bs s.heap (PyData.depthAll ds) us (PyData.shownAll ds)
  | _, _, _, .nil, r, _ => by
    cases r
    exact ⟨[], [], .nil, (fun _ h => nomatch h), by simp only [PyData.shownAll]; exact .nil⟩
  | _, _, _, .cons (d := d) (ds := ds) h hs, r, hz => by
    cases r with
    | cons r1 r2 =>
      obtain ⟨as, q1, q2⟩ := h.reads I r1
      obtain ⟨b1, hb1, k1⟩ := ReprK.of_reads (prog := X.prog) (w := X.w) q1 h.shd.sh q2 (hz _ (by simp only [PyData.shownAll]; exact List.mem_cons_self ..))
      obtain ⟨as2, b2, q3, hb2, k2⟩ := SvAll.reads I hs r2 (fun t ht => hz t (by simp only [PyData.shownAll]; exact List.mem_cons_of_mem _ ht))
      refine ⟨_, b1 ++ b2, .cons q1 q3, ?_, ?_⟩
      · intro b hm
        simp only [PyData.depthAll]
        rcases List.mem_append.mp hm with hm | hm
        · obtain ⟨d', as', r', hd'⟩ := hb1 b hm
          exact ⟨d', as', r', Nat.le_trans hd' (Nat.le_max_left _ _)⟩
        · obtain ⟨d', as', r', hd'⟩ := hb2 b hm
          exact ⟨d', as', r', Nat.le_trans hd' (Nat.le_max_right _ _)⟩
      · simp only [PyData.depthAll, PyData.shownAll]
        exact .cons ((k1.more fun b hb => List.mem_append_left _ hb).level_le (Nat.le_max_left _ _)) (k2.more_le (fun b hb => List.mem_append_right _ hb) (Nat.le_max_right _ _))
end
def rReprT : List V → Hp → VK → Prop := fun xs H Q => ∃ x d, xs = [x] ∧ Th H x d ∧ Q (.str d.shown) H
theorem call_repr_T {X : Cx} (hg : X.A.guards = some []) (hu : X.A.units + 64 < cLine) : CallR X (.builtin "repr") rReprT := by
  intro pins s σ H xs us Q I r h
  obtain ⟨x, d, rfl, h, q⟩ := h
  obtain ⟨u, rfl, ru⟩ := vals1 r
  have sh := h.shd
  have hz := sh.short (by decide)
  have hdp := sh.dp
  have viaR : ∀ {a : Addr} {as : List Addr}, Reads s.heap (.ref a) d as → (d.hasDict = true → sysModules ∉ as) → u = .ref a → wpAny (model X.prog X.w) X.A (call (.builtin "repr") [u]) (fun v s' => ∃ x' H', Inv X pins σ H' s' ∧ RelV x' v ∧ Q x' H') X.xe s := fun rd hs e => by
    subst e
    exact repr_of_reads' rd sh.sh hs hg (by omega) (fun _ _ e => e) (fun h' v tk hk => ⟨.str d.shown, H, I.kept hk, ⟨_, rfl⟩, q⟩) hz
  cases h with
  | sv h =>
    cases h with
    | non =>
      cases ru
      exact PySem.P.repr_of_none ⟨.str _, H, I.tok _, ⟨_, rfl⟩, by simpa only [PyData.shown] using q⟩
    | bl b =>
      cases ru
      exact PySem.P.repr_of_bool ⟨.str _, H, I.tok _, ⟨_, rfl⟩, by simpa only [PyData.shown] using q⟩
    | int i h =>
      obtain ⟨t, rfl⟩ := ru
      exact PySem.P.repr_of_int (by simpa [PyData.showable] using sh.sh) ⟨.str _, H, I.tok _, ⟨_, rfl⟩, by simpa only [PyData.shown] using q⟩
    | one =>
      obtain ⟨t, rfl⟩ := ru
      exact PySem.P.repr_of_str ⟨.str _, H, I.tok _, ⟨_, rfl⟩, by simpa only [PyData.shown] using q⟩ (by simpa only [PyData.shown] using hz)
    | tupB b e =>
      cases ru
      obtain ⟨as, r1, r2⟩ := (Sv.tupB b e).reads I (u := .ref _) rfl
      exact viaR r1 r2 rfl
    | lst e h hl =>
      cases ru
      obtain ⟨as, r1, r2⟩ := (Sv.lst e h hl).reads I (u := .ref _) rfl
      exact viaR r1 r2 rfl
    | tup e h hl =>
      cases ru
      obtain ⟨as, r1, r2⟩ := (Sv.tup e h hl).reads I (u := .ref _) rfl
      exact viaR r1 r2 rfl
    | dct e =>
      cases ru
      obtain ⟨as, r1, r2⟩ := (Sv.dct e).reads I (u := .ref _) rfl
      exact viaR r1 r2 rfl
  | @row a ys ds e h hl =>
    cases ru
    obtain ⟨its, rv, ⟨o, n, ho, hc, _, hd⟩, _⟩ := I.list (SqL.of e)
    have hz' : (listText (PyData.shownAll ds)).length ≤ sizeLine := by simpa only [PyData.shown] using hz
    obtain ⟨as, bs, hr, hb, hk⟩ := h.reads I rv (fun t ht => Nat.le_trans (listText_mem_le ht) hz')
    have rd : Reads s.heap (.ref a) (.list ds) _ := Reads.list ho hc hd hr
    have hna : a ∉ bs := not_mem_of_deeper rd (by simp only [PyData.depth]; omega) hb
    simp only [PyData.depth] at hdp
    simp only [PyData.shown] at q
    refine call_repr_slot (T := "list") (idr := "list.__repr__") (by omega) ⟨o, ho, hc⟩ F.slot_list_repr.toG ?_
    have fin : ∀ (h' : Heap) (t : Tok) (tk : Nat), (∀ b o, s.heap.get? b = some o → h'.get? b = some o) → ∃ x t, (Value.str (listText (PyData.shownAll ds)) t) = .str x t ∧ True := fun _ t _ _ => ⟨_, t, rfl, trivial⟩
    cases its with
    | nil =>
      have hl0 := rv.length
      cases hr
      simp only [PyData.shownAll, listText_nil] at q
      exact call_list_repr_empty ⟨o, ho, hc⟩ ho hd ⟨_, _, rfl, .str _, H, I.tok _, ⟨_, rfl⟩, q⟩
    | cons y l =>
      exact call_list_reprK ho hc hd hna (by simpa using hk.length_eq) (fun i y e => hk.item i y (by simpa using e)) hg (fun b _ => Clear.nil b) (by show X.A.units + 1 + _ < cLine; omega) (fun _ _ e => e) (fun h' t tk hk' => ⟨_, _, rfl, .str _, H, I.kept hk', ⟨_, rfl⟩, q⟩) hz'
end Lc

namespace L2
open PySem PySem.Spec PyProof.Rows
/-! ### a def that closes over __class__ -/
/-- the context of its body -/
def cxS (CX : CXT) (P : Program) (w : World) (K : PySem.W.Frag) (mg : Str → Option Value) (base : Heap) (N : List Str) (qual : Str) (scope : Scope) (f : Addr) (cd : Value) (cc : Addr) (A : Around) (outer : List Env) (s : Shared) (H : Hp) (E : XK) : Cx where
  prog := P
  w := w
  K := K
  mg := mg
  base := base
  A := A.deeper (PySem.W.ksEnv qual scope s.heap.objs.size f cd cc)
  N := N
  s_0 := s
  H_0 := H
  env := PySem.W.ksEnv qual scope s.heap.objs.size f cd cc
  outer := outer
  stack := PySem.W.ksEnv qual scope s.heap.objs.size f cd cc :: outer
  ex := []
  calm := true
  fn := fun _ => false
  pn := []
  xe := fun e s' => wpAny (model P w) (A.deeper (PySem.W.ksEnv qual scope s.heap.objs.size f cd cc)) (leaving (PySem.W.ksEnv qual scope s.heap.objs.size f cd cc) e) (fun _ s'' => CX outer H s E e s'') (fun e' s'' => CX outer H s E e' s'') s'
structure SuScope (N ps : List Str) (sc : Scope) : Prop where
  kind : sc.kind = .function
  co : sc.isCoroutine = false
  gen : sc.isGenerator = false
  nd : N.Nodup
  pre : N.take ps.length = ps
  par : ∀ x ∈ ps, sc.names.lookup x = some .local
  nocell : ∀ y ∈ sc.names, y.2 ≠ .cell
  free : ∀ y ∈ sc.names, y.2 = .free → y.1 = ("__class__" : Str)
theorem cell1 {x : Str} {c cc : Addr} (h : ([(("__class__" : Str), cc)] : List (Str × Addr)).lookup x = some c) : x = ("__class__" : Str) ∧ c = cc := by
  rw [List.lookup_cons] at h
  cases e : x == ("__class__" : Str) with
  | true => rw [e] at h; exact ⟨eq_of_beq e, (Option.some.inj h).symm⟩
  | false => rw [e] at h; cases h
section
variable {CX : CXT} {P : Program} {w : World} {K : PySem.W.Frag} {mg : Str → Option Value} {base : Heap} {N ps : List Str} {qual : Str} {scope : Scope} {f cc : Addr} {cd : Value} {A : Around} {outer : List Env} {s : Shared} {H : Hp} {E : XK} {us : List Value} {vs : List V}
theorem inv_startS {h₁ : Heap} {tk : Nat} {oc : Obj} {v0 : Option Value} (S : SuScope N ps scope) (hd : A.handled = none) (e0 : Env0 P w K mg base A outer s H) (hl : vs.length = ps.length) (r : Vals vs us) (hc : base.get? cc = some oc) (hcd : oc.data = .cell v0)
    (hns : h₁.Ns s.heap.objs.size fun y => (ps.zip us).reverse.lookup y) (kp : ∀ b o, s.heap.get? b = some o → h₁.get? b = some o) :
    Inv (cxS CX P w K mg base N qual scope f cd cc A outer s H E) [] (start N vs) H { s with heap := h₁, toks := tk } := by
  have hpl : ps.length ≤ N.length := by have := congrArg List.length S.pre; rw [List.length_take] at this; omega
  have noA : ∀ b : Addr, b ∉ (cxS CX P w K mg base N qual scope f cd cc A outer s H E).ex := fun b z => absurd (show b ∈ ([] : List Addr) from z) (by simp)
  refine ⟨⟨e0.mod, S.kind, rfl, rfl, Nat.le_refl _, fun x y c h1 h2 => ?_, fun y hy => ?_, fun y c z _ => ?_, fun _ => hd, Around.frames_deeper e0.frames, .inr ⟨rfl, rfl⟩, fun b z => absurd z (noA b), e0.bs, e0.bsz, fun b _ _ => noA b,
      fun b z => absurd z (noA b), e0.funs, e0.frf⟩,
    rfl, e0.bare, Un.kept kp, ⟨_, hns, fun i y v e1 e2 e3 => ?_⟩, fun y c e => ?_, e0.hok.fresh (Nat.le_refl _), fun y c e => ?_, fun q hq => absurd (show q ∈ ([] : List (Addr × Obj)) ++ [] from hq) (by simp), e0.hok.kept kp, ?_⟩
  · rw [(cell1 h1).1, (cell1 h2).1]
  · have hy : scope.names.lookup y = some .cell ∨ scope.names.lookup y = some .free := hy
    rcases hy with hy | hy
    · exact absurd rfl (S.nocell _ (PySem.mem_of_lookup hy))
    · have e := S.free _ (PySem.mem_of_lookup hy) rfl
      have e : y = ("__class__" : Str) := e
      exact ⟨cc, by rw [e]; rfl⟩
  · have z : false = true := z
    cases z
  · have e1 : N[i]? = some y := e1
    unfold start at e2
    have h1 : i < vs.length := by
      by_cases hi : i < vs.length
      · exact hi
      · rw [List.getElem?_append_right (by simpa using hi)] at e2
        rw [List.getElem?_replicate] at e2
        split at e2 <;> cases e2
    have ha : vs[i]? = some v := by
      rw [List.getElem?_append_left (by simpa using h1), List.getElem?_map] at e2
      cases e : vs[i]? with
      | none => rw [e] at e2; cases e2
      | some a => rw [e] at e2; cases e2; rfl
    have hq : ps[i]? = some y := by rw [← S.pre, List.getElem?_take_of_lt (by omega)]; exact e1
    obtain ⟨u, hu, rv⟩ := r.get ha
    have ndP : ps.Nodup := by rw [← S.pre]; exact S.nd.sublist (List.take_sublist _ _)
    exact ⟨u, rv, .inl ⟨S.par y (List.mem_of_getElem? hq), NdefX.zip_look ndP hq hu⟩⟩
  · obtain ⟨_, e⟩ := cell1 e
    subst e
    exact ⟨v0, oc, kp _ _ (e0.bs _ _ hc).1, hcd⟩
  · obtain ⟨_, e⟩ := cell1 e
    subst e
    exact (e0.bs _ _ hc).2
  · unfold start
    show _ = N.length
    rw [List.length_append, List.length_map, List.length_replicate]
    omega
end
/-! ### statements that are the first of a known def -/
structure PEAt (X : Cx) (b0 : List Stmt) (e : Expr) (t : TE) : Prop where
  run : ∀ (pins : List (Addr × Obj)) (s : Shared) (σ : St) (H : Hp) (Q : VK), Inv X pins σ H s → t σ H Q → _root_.PySem.wpAt (model X.prog X.w) X.A (.func b0 X.env) (eval e X.env) (EP X pins σ Q) X.xe s
structure PSAt (X : Cx) (b0 : List Stmt) (st : Stmt) (t : TS) : Prop where
  run : ∀ (pins : List (Addr × Obj)) (s : Shared) (σ : St) (H : Hp) (D : Ends), Inv X pins σ H s → t D σ H → _root_.PySem.wpAt (model X.prog X.w) X.A (.func b0 X.env) (exec st X.env) (SP X pins D) X.xe s
structure PSAts (X : Cx) (b0 : List Stmt) (st : List Stmt) (t : TS) : Prop where
  run : ∀ (pins : List (Addr × Obj)) (s : Shared) (σ : St) (H : Hp) (D : Ends), Inv X pins σ H s → t D σ H → _root_.PySem.wpAt (model X.prog X.w) X.A (.func b0 X.env) (execs st X.env) (SP X pins D) X.xe s
section
variable {X : Cx} {b0 : List Stmt} {st : Stmt} {rest : List Stmt} {t u : TS} {e : Expr} {te : TE} {pos : Pos}
theorem psats_of (h : PSs X rest t) : PSAts X b0 rest t := ⟨fun pins s σ H D I q => _root_.PySem.wpAt_of_wpAny (h.run pins s σ H D I q)⟩
theorem psat_of (h : PS X st t) : PSAt X b0 st t := ⟨fun pins s σ H D I q => _root_.PySem.wpAt_of_wpAny (h.run pins s σ H D I q)⟩
theorem psats_cons (h1 : PSAt X b0 st t) (h2 : PSAts X b0 rest u) : PSAts X b0 (st :: rest) (tSeq t u) := by
  refine ⟨fun pins s σ H D I h => _root_.PySem.ks_wpAt_execs_cons (_root_.PySem.ks_wpAt_mono (h1.run pins s σ H { D with nx := u D } I h) (fun f s1 q => ?_) fun _ _ z => z)⟩
  cases f with
  | next =>
    obtain ⟨σ', H', I', q⟩ := q
    exact h2.run pins s1 σ' H' D I' q
  | brk => exact q
  | cont => exact q
  | ret v => exact q
theorem psat_expr (he : PEAt X b0 e te) (hs : swapsWith e none pos.line X.env = pure false := by rfl) : PSAt X b0 (.Expr e pos) (tDrop te) := by
  refine ⟨fun pins s σ H D I h => ?_⟩
  exact _root_.PySem.ks_wpAt_Expr_any (_root_.PySem.ks_wpAt_mono (he.run pins s σ H _ I h) (fun v s1 ⟨x, H1, I1, r1, q1⟩ => ⟨σ, H1, I1, q1⟩) fun _ _ z => z) I.quiet hs
theorem psat_ret (he : PEAt X b0 e te) : PSAt X b0 (.Return (some e) pos) (tRet te) := by
  refine ⟨fun pins s σ H D I h => ?_⟩
  exact _root_.PySem.ks_wpAt_Return_some (_root_.PySem.ks_wpAt_mono (he.run pins s σ H _ I h) (fun v s1 ⟨x, H1, I1, r1, q1⟩ => ⟨x, σ, H1, I1, r1, q1⟩) fun _ _ z => z)
end
/-- what of the text super() needs in the def at f of the class D, its code record cda, its cell cc, its first parameter ar0 -/
structure SupOk (P : Program) (K : PySem.W.Frag) (f cda cc D : Addr) (ar0 : Str) : Prop where
  fd : ∃ oc od fd osl ar, K.lookup f = some ⟨oc, od, .func fd, osl⟩ ∧ (fd.params.posonlyargs ++ fd.params.args).head? = some ar ∧ ar.arg = ar0
  code : ∃ ccl cdd vs ccs file tf, K.lookup cda = some ⟨ccl, cdd, .fields vs, ccs⟩ ∧ vs[2]? = some (.str file tf) ∧ ((P.main.file : Str) == file) = true
  cell : ∃ cl cld csl, K.lookup cc = some ⟨cl, cld, .cell (some (.ref D)), csl⟩
  cls : (PySem.W.clsIn K D).isSome = true
  top : (P.main.scope.names.lookup ("super" : Str)).isSome = false
/-- for an instance of C, super() of D hands out m of the def at f2 -/
structure SupTo (K : PySem.W.Frag) (C D f2 : Addr) (m : Str) : Prop where
  sub : PySem.W.mroIn K C (.ref D) = some true
  to : PySem.W.ks_superIn K C D m = some (some (.ref f2))
  fn : PySem.W.typeIn K (.ref f2) = some (.type "function")
  fi : PySem.W.fnIn K f2 = true
  tp : PySem.W.nsIn K cStatics "thirdparty.any" = some none
  ne : (m == ("__class__" : Str)) = false
/-- super().m(..): self is the name in slot i0 -/
def tSuper (C : Addr) (i0 : Nat) (sp : Sp) (E : XK) (t : TA) : TE := fun σ H Q => ∃ a dx fs, σ[i0]? = some (some (.ref a)) ∧ H a = some (.ins C dx fs) ∧ t σ H fun vs H2 => sp (.ref a :: vs) H2 Q E
theorem boot_super : bootBuiltins "super" = some (.type "super") := by first | rfl | kernel_rfl
section
variable {X : Cx} {CX : CXT} {b0 : List Stmt} {k i0 : Nat} {f cda cc D C f2 : Addr} {ar0 m : Str} {sp : Sp} {E : XK} {e : Expr} {es : List Expr} {t : TA} {p0 p1 apos pos : Pos} {pl : Sem Bool}
theorem pea_super (S : SupOk X.prog X.K f cda cc D ar0) (hfu : X.env.func = some f) (hco : X.env.code = .ref cda) (hcl : X.env.cells.lookup ("__class__" : Str) = some cc) (hks : X.env.kindOf "super" = some .globalImplicit)
    (hkc : X.env.kindOf "__class__" = some .free) (hka : X.env.kindOf ar0 = some .local) (hi : X.N[i0]? = some ar0) (hm : X.mg "super" = none) (T : SupTo X.K C D f2 m) (F : FnR X.prog X.w X.K X.mg X.base CX k f2 sp) (hr : Room k X.A) (hx : Passes CX X E)
    (ha : PA X (e :: es) t) (hst : starEach (e :: es) X.env = (false, eval e X.env) :: starEach es X.env := by rfl) (hpl : (backTo pos (starEach es X.env)).any (·.1) = false := by rfl)
    (ht : eval (.Call (.Attribute (.Call (.Name "super" p0) [] [] p1) m apos) (e :: es) [] pos) X.env = (do
      let ov ← attributeBase (.Call (.Name "super" p0) [] [] p1) m X.env (eval (.Call (.Name "super" p0) [] [] p1) X.env)
      standAt apos.atName
      let (f, first) ← holding [ov] (getMethod ov m pl)
      callWith pos f first (backTo pos (starEach (e :: es) X.env)) []) := by rfl) :
    PEAt X b0 (.Call (.Attribute (.Call (.Name "super" p0) [] [] p1) m apos) (e :: es) [] pos) (tSuper C i0 sp E t) := by
  refine ⟨fun pins s σ H Q I h => ?_⟩
  obtain ⟨a, dx, fs, hσ, ea, q⟩ := h
  obtain ⟨oc, od, fd, osl, ar, lk, har, ear⟩ := S.fd
  obtain ⟨ccl, cdd, vs, ccs, file, tf, lkc, hvs, hfile⟩ := S.code
  obtain ⟨cl, cld, csl, lkcc⟩ := S.cell
  obtain ⟨cdD, hD⟩ := Option.isSome_iff_exists.mp S.cls
  have KX : X.K.In s.heap := I.kIn
  obtain ⟨mA, O, _⟩ := ins_get I.hok ea
  obtain ⟨odx, J, _⟩ := O.look
  obtain ⟨oD, hD1, hD2⟩ : ∃ oD, s.heap.get? D = some oD ∧ oD.data = .cls cdD := by
    unfold PySem.W.clsIn at hD
    split at hD
    · rename_i c d cd' sl ho
      cases hD
      exact ⟨_, KX _ _ ho, rfl⟩
    · cases hD
  obtain ⟨mm, hns, hlk⟩ := I.loc
  obtain ⟨u, ru, hlook⟩ := hlk i0 ar0 (.ref a) hi hσ (.inl hka)
  obtain rfl : u = Value.ref a := ru
  have hmm : mm ar0 = some (.ref a) := by
    rcases hlook with ⟨_, z⟩ | ⟨z, _⟩
    · exact z
    · rw [hka] at z; rcases z with z | z <;> cases z
  obtain ⟨mb, b1, b2⟩ := I.mod.blt
  refine _root_.PySem.ks_wpAt_MethodCall (pl := pl) ?_ ht
  refine _root_.PySem.ks_wpAt_super_base hks hkc T.ne hfu (KX _ _ lk) rfl har hco (KX _ _ lkc) rfl hvs hfile S.top ?_
  refine PySem.W.ks_loadName_global I.ok.kind hks (Calls.loadGlobal_builtin (by rw [I.ok.glob]; exact I.mod.glob.keeps I.bk) hm (by rw [I.ok.blt]; exact b1.keeps I.bk) ((b2 "super" (by decide)).trans boot_super) ⟨rfl, ?_⟩)
  refine wpAny_loadName_free I.ok.kind hkc hcl ⟨_, KX _ _ lkcc, rfl⟩ ?_
  rw [ear]
  refine wpAny_loadName_local I.ok.kind hka hns hmm ?_
  obtain ⟨hh, g, d, tt, os⟩ := s
  refine _root_.PySem.ks_wpAny_isType_cls hD1 hD2 ⟨rfl, ?_⟩
  refine _root_.PySem.ks_wpAny_call_super hD1 hD2 J.at_ J.cls (fun c e => ?_) (PySem.W.looks_mroIn KX T.sub) (fun h' e1 k1 => ?_)
  · have := J.no
    unfold PySem.W.notCls at this
    rw [e] at this
    exact Bool.noConfusion this
  have I1 := ClX.pin_new (t' := tt) I (h' := h') k1 (Nat.le_refl _) e1 (fun v z => nomatch z)
  have KX1 : X.K.In h' := I1.kIn
  obtain ⟨cdC, hC⟩ : ∃ cdC, PySem.W.clsIn X.K C = some cdC := by
    have q := T.to
    unfold PySem.W.ks_superIn at q
    cases z : PySem.W.clsIn X.K C with
    | none => rw [z] at q; cases q
    | some c => exact ⟨c, rfl⟩
  have hto := T.to
  unfold PySem.W.ks_superIn at hto
  rw [hC] at hto
  obtain ⟨of, hof, hofc⟩ : ∃ of, h'.get? f2 = some of ∧ of.cls = .type "function" := by
    have ht' : (X.K.lookup f2).map (·.cls) = some (.type "function") := T.fn
    cases z : X.K.lookup f2 with
    | none => rw [z] at ht'; cases ht'
    | some of => rw [z] at ht'; exact ⟨of, KX1 _ _ z, Option.some.inj ht'⟩
  refine _root_.PySem.ks_wpAny_getMethod_super e1 (PySem.W.looks_opaque KX1 T.tp) (l₀ := cdC.mro) ?_ rfl KX1 hto hof hofc (PySem.W.ks_ne KX J hC) T.ne ?_
  · exact fun A Q E s k q => wpAny_bind ((PySem.W.looks_clsIn KX1 hC) A _ E s k (wpAny_pure q))
  have I2 := ClX.pin_new (t' := tt + 1) I1 (h' := h'.push (PySem.W.methodObj (.ref f2) (.ref a))) (fun _ _ z => Heap.get?_push_of_some _ z) (Nat.le_refl _) (Heap.get?_push_size h' rfl) (fun v z => nomatch z)
  refine ClX.callwith_cm I2 (ClX.base_none I1 (Nat.le_refl _)) T.fi (thn (ha.run pos _ _ σ H _ I2 q) fun us s3 ⟨vs, H2, I3, rv, q2⟩ => ⟨⟨ClX.pin_at I3, I3.kIn⟩, ?_⟩) hst hpl
  exact thn (ClX.run_cm F hr hx I3 rv q2) fun _ _ y => ClX.unpinE y
end
/-- a def that closes over __class__, by its body -/
theorem fn_ofS {CX : CXT} {P : Program} {w : World} {K : PySem.W.Frag} {mg : Str → Option Value} {base : Heap} {k : Nat} {f cc : Addr} {name qual : Str} {params : Arguments} {body : List Stmt} {scope : Scope} {dV kV doc pm cdv ct oc cl : Value} {an od cld : Option Addr}
    {osl csl : Array (Option Value)} {v0 : Option Value} {N ps : List Str} {sp : Sp} (lk : K.lookup f = some ⟨oc, od, .func (PySem.W.ksFn name qual params body scope dV kV doc pm an cdv ct cc), osl⟩) (hcd : PySem.W.codeIn K cdv qual = true)
    (lkcc : K.lookup cc = some ⟨cl, cld, .cell v0, csl⟩) (S : SuScope N ps scope) (len : ∀ vs H Q E, sp vs H Q E → vs.length = ps.length)
    (hbody : ∀ (A : Around) (outer : List Env) (s : Shared) (H : Hp) (vs : List V) (Q : VK) (E : XK), Room k (A.deeper (PySem.W.ksEnv qual scope s.heap.objs.size f cdv cc)) → sp vs H Q E →
      ∃ t, PSAts (cxS CX P w K mg base N qual scope f cdv cc A outer s H E) body body t ∧ t { nx := fun _ H' => Q .non H', rt := Q } (start N vs) H) :
    FnOk P w K mg base CX (k + 1) f (PySem.W.ksFn name qual params body scope dV kV doc pm an cdv ct cc) ps sp := by
  refine ⟨len, fun A outer s H args us vs Q E hr e0 hb r hsp => ?_⟩
  have hl := len _ _ _ _ hsp
  have KX : K.In s.heap := e0.mod.kin.keeps fun b o e => (e0.bs b o e).1
  have lim : s.heap.NoLimit := e0.mod.nolimit.keeps fun b o e => (e0.bs b o e).1
  refine codeAny_call_function hr.depth (KX _ _ lk) rfl S.co S.gen rfl (PySem.W.codeRec_of KX hcd) (hb _ _ _ _ ?_)
  refine wpAny_newFunctionEnv S.nocell (fun ⟨n, _⟩ hy => S.par n (List.of_mem_zip hy).1) (fun h₁ hns hsb => ⟨lim.fresh _ hsb, ?_⟩) S.kind
  show codeAny _ _ (.func body (PySem.W.ksEnv qual scope s.heap.objs.size f cdv cc)) _ _
  refine _root_.PySem.ks_codeAny_funcAt ?_
  have kp : ∀ b o, s.heap.get? b = some o → h₁.get? b = some o := fun b o e => hsb.extBut b o (Nat.ne_of_lt (Heap.lt_size e)) (Heap.get?_push_of_some _ e)
  obtain ⟨t, ht, hq⟩ := hbody A outer s H vs Q E (hr.deeper _) hsp
  have I : Inv (cxS CX P w K mg base N qual scope f cdv cc A outer s H E) [] (start N vs) H { s with heap := h₁, toks := s.toks + (ps.zip us).length } := inv_startS S hr.hd e0 hl r (e0.mod.kin _ _ lkcc) rfl hns kp
  refine _root_.PySem.ks_wpAt_mono (ht.run [] _ (start N vs) H _ I hq) (fun fl s' hs => ?_) fun e s' hs => hs
  have fin : ∀ {σ' : St} {H' : Hp} {v : V} {u : Value}, Inv (cxS CX P w K mg base N qual scope f cdv cc A outer s H E) [] σ' H' s' → RelV v u → Q v H' → CE outer P w H s Q u s' :=
    fun {σ' H' v u} J rv q => ⟨v, H', J.os, J.bare, J.base, J.hok, rv, q⟩
  cases fl with
  | ret u =>
    obtain ⟨v, σ', H', J, rv, q⟩ := hs
    exact fin J rv q
  | next =>
    obtain ⟨σ', H', J, q⟩ := hs
    exact fin (v := V.non) (u := Value.none) J rfl q
  | brk =>
    obtain ⟨_, _, _, q⟩ := hs
    exact False.elim q
  | cont =>
    obtain ⟨_, _, _, q⟩ := hs
    exact False.elim q
end L2
namespace L2
open PySem PySem.Spec PyProof.Rows ClX
/-! ### static methods -/
/-- C.m is a static method: its record at p, its def at g -/
structure SMet (K : PySem.W.Frag) (C : Addr) (mc : Value) (m : Str) (p g : Addr) : Prop where
  at_ : PySem.W.findCls K (.ref C) mc m = some (.get (.builtin "staticmethod.__get__") (.ref p) .none (.ref C))
  rc : ∃ rest, PySem.W.recIn K p "staticmethod" = some (.ref g :: rest)
  kp : PySem.W.keepIn K (.ref g) = true
/-- .. reached through an instance of C -/
structure SInst (K : PySem.W.Frag) (C : Addr) (m : Str) (p g : Addr) : Prop where
  pg : PySem.W.plainGet K C Str.empty = true
  ic : PySem.W.isClsIn K C = true
  at_ : PySem.W.findIn K (.ref C) m = some (some (.ref p))
  ty : PySem.W.typeIn K (.ref p) = some (.type "staticmethod")
  get : PySem.W.specialIn K (.ref p) "__get__" = some (some (.builtin "staticmethod.__get__"))
  tk : PySem.W.takesIn K (.ref p) = some false
  cp : PySem.W.copiedNames.contains m = false
  rc : ∃ rest, PySem.W.recIn K p "staticmethod" = some (.ref g :: rest)
  kp : PySem.W.keepIn K (.ref g) = true
section
variable {X : Cx} {pins : List (Addr × Obj)} {σ : L2.St} {H : Hp} {s : Shared} {a C p g : Addr} {mc : Value} {m : Str} {A : Around} {E : Value → Shared → Prop} {pl : Sem Bool} {Q : Value × List Value → Shared → Prop}
theorem getmethsm_ok (I : Inv X pins σ H s) (r : CRead X.K C mc) (k : SMet X.K C mc m p g) (h : ∀ s', Inv X pins σ H s' → Q (.ref g, []) s') : wpAny (model X.prog X.w) A (getMethod (.ref C) m pl) Q E s := by
  obtain ⟨rest, hp⟩ := k.rc
  refine PySem.W.method_cls I.kIn r.ga (PySem.W.cls_bind I.kIn r.rd k.at_ ?_)
  exact wpAny_call (PySem.W.sm_get (s := { s with toks := s.toks + 1 }) I.kIn hp (PySem.W.handed_on rfl (h _ (I.tok _))))
theorem getmethsi_ok {ox od : Obj} (I : Inv X pins σ H s) (J : PySem.W.InstAt s.heap a ox C (some od)) (hl : PySem.W.lookIn m od = some none) (k : SInst X.K C m p g) (h : ∀ s', Inv X pins σ H s' → Q (.ref g, []) s') :
    wpAny (model X.prog X.w) A (getMethod (.ref a) m pl) Q E s := by
  obtain ⟨rest, hp⟩ := k.rc
  have pg : PySem.W.plainGet X.K C m = true := k.pg
  refine PySem.W.method_usual (r := some (.ref p)) I.kIn J (PySem.W.plainGet_of pg).1 (PySem.W.plainGet_of pg).2 k.at_ ?_ ?_
  · show ((PySem.W.typeIn X.K (.ref p)).any fun t => t != .type "function" && t != .type "method_descriptor" && t != .type "wrapper_descriptor") = true
    rw [k.ty]
    first
    | rfl
    | decide +kernel
  · refine PySem.W.get_bind I.kIn J (PySem.W.plainGet_of pg).1 (find_cm k.ic k.at_ k.get k.tk k.cp hl) (PySem.W.plainGet_of pg).2 ?_
    exact wpAny_call (PySem.W.sm_get (s := { s with toks := s.toks + 1 }) I.kIn hp (PySem.W.handed_on rfl (h _ (I.tok _))))
end
/-- C.m(..), m a static method of the class at C -/
def tSMeth (C : Addr) (sp : Sp) (dvs : List V) (E : XK) (ta : TE) (t : TA) : TE := fun σ H Q => ta σ H fun x H1 => x = .ref C ∧ t σ H1 fun vs H2 => sp (vs ++ dvs) H2 Q E
/-- C.m(k = ..) -/
def tSMethK (C : Addr) (sp : Sp) (gV : List V → List V → List V) (E : XK) (ta : TE) (t : TA) : TE := fun σ H Q => ta σ H fun x H1 => x = .ref C ∧ t σ H1 fun zs H2 => sp (gV [] zs) H2 Q E
/-- o.m(..), o an instance of C, m a static method -/
def tSInst (C : Addr) (m : Str) (sp : Sp) (dvs : List V) (E : XK) (ta : TE) (t : TA) : TE := fun σ H Q => ta σ H fun x H1 => ∃ a dx fs, x = .ref a ∧ H1 a = some (.ins C dx fs) ∧ fs.lookup m = none ∧ t σ H1 fun vs H2 => sp (vs ++ dvs) H2 Q E
section
variable {X : Cx} {CX : CXT} {k : Nat} {C p g : Addr} {fd : FuncData} {ps ks : List Str} {dvs : List V} {ds : List Value} {mc : Value} {sp : Sp} {E : XK} {o e : Expr} {es : List Expr} {kws : List Keyword} {m : Str} {pos apos : Pos} {ta : TE} {t : TA} {pl : Sem Bool}
theorem pe_smeth (he : PE X o ta) (r : CRead X.K C mc) (c : SMet X.K C mc m p g) (F : FnOk X.prog X.w X.K X.mg X.base CX k g fd ps sp) (hr : Room k X.A) (hb : Binds X.K fd ps ds) (hd : Vals dvs ds) (hx : Passes CX X E) (ha : PA X (e :: es) t)
    (hst : starEach (e :: es) X.env = (false, eval e X.env) :: starEach es X.env := by rfl) (hpl : (backTo pos (starEach es X.env)).any (·.1) = false := by rfl)
    (ht : eval (.Call (.Attribute o m apos) (e :: es) [] pos) X.env = (do
      let ov ← eval o X.env
      standAt apos.atName
      let (f, first) ← holding [ov] (getMethod ov m pl)
      callWith pos f first (backTo pos (starEach (e :: es) X.env)) (backToKw pos (keywordEach [] X.env))) := by rfl) :
    PE X (.Call (.Attribute o m apos) (e :: es) [] pos) (tSMeth C sp dvs E ta t) := by
  refine ⟨fun pins s σ H Q I h => ?_⟩
  refine PySem.W.methodCall_KW (pl := pl) (thn (he.run pins s σ H _ I h) fun u s1 ⟨x, H1, I1, rx, ex, q⟩ => ?_) ht
  subst ex
  obtain rfl : u = Value.ref C := rx
  refine getmethsm_ok I1 r c fun s2 I2 => ?_
  refine PySem.W.callWith_K (h₀ := X.base) I2.ok.mod.kin c.kp (thn (ha.run pos pins s2 σ H1 _ I2 q) fun us s3 ⟨vs, H2, I3, rv, q2⟩ => ⟨I3.kIn, ?_⟩) hst hpl
  exact run_fn F hr hb hd hx I3 rv q2
theorem pe_smethK {gg : List Value → List Value → List Value} {gV : List V → List V → List V} (he : PE X o ta) (r : CRead X.K C mc) (c : SMet X.K C mc m p g) (F : FnOk X.prog X.w X.K X.mg X.base CX k g fd ps sp) (hr : Room k X.A) (hb : KBinds X.K fd ps ks gg gV) (hx : Passes CX X E) (hkw : PK X kws t)
    (hall : (backToKw pos (keywordEach kws X.env)).all (·.1.isSome) = true := by rfl) (hks : (backToKw pos (keywordEach kws X.env)).filterMap (·.1) = ks := by rfl)
    (hpl : ((backTo pos (starEach [] X.env)).any (·.1) || (backToKw pos (keywordEach kws X.env)).any (·.1.isNone)) = false := by rfl)
    (ht : eval (.Call (.Attribute o m apos) [] kws pos) X.env = (do
      let ov ← eval o X.env
      standAt apos.atName
      let (f, first) ← holding [ov] (getMethod ov m pl)
      callWith pos f first (backTo pos (starEach [] X.env)) (backToKw pos (keywordEach kws X.env))) := by rfl) :
    PE X (.Call (.Attribute o m apos) [] kws pos) (tSMethK C sp gV E ta t) := by
  refine ⟨fun pins s σ H Q I h => ?_⟩
  refine PySem.W.methodCall_KW (pl := pl) (thn (he.run pins s σ H _ I h) fun u s1 ⟨x, H1, I1, rx, ex, q⟩ => ?_) ht
  subst ex
  obtain rfl : u = Value.ref C := rx
  refine getmethsm_ok I1 r c fun s2 I2 => ?_
  refine PySem.W.callWith_KW0 (first := []) (h₀ := X.base) I2.ok.mod.kin c.kp hall (thn (hkw.run pos pins s2 σ H1 _ I2 q) fun ws s3 ⟨zs, H2, I3, rz, q2⟩ => ⟨I3.kIn, ?_⟩) hpl
  rw [hks]
  exact run_fnk F hr hb hx I3 .nil rz q2
theorem pe_sinst (he : PE X o ta) (c : SInst X.K C m p g) (F : FnOk X.prog X.w X.K X.mg X.base CX k g fd ps sp) (hr : Room k X.A) (hb : Binds X.K fd ps ds) (hd : Vals dvs ds) (hx : Passes CX X E) (ha : PA X (e :: es) t)
    (hst : starEach (e :: es) X.env = (false, eval e X.env) :: starEach es X.env := by rfl) (hpl : (backTo pos (starEach es X.env)).any (·.1) = false := by rfl)
    (ht : eval (.Call (.Attribute o m apos) (e :: es) [] pos) X.env = (do
      let ov ← eval o X.env
      standAt apos.atName
      let (f, first) ← holding [ov] (getMethod ov m pl)
      callWith pos f first (backTo pos (starEach (e :: es) X.env)) (backToKw pos (keywordEach [] X.env))) := by rfl) :
    PE X (.Call (.Attribute o m apos) (e :: es) [] pos) (tSInst C m sp dvs E ta t) := by
  refine ⟨fun pins s σ H Q I h => ?_⟩
  refine PySem.W.methodCall_KW (pl := pl) (thn (he.run pins s σ H _ I h) fun u s1 ⟨x, H1, I1, rx, a, dx, fs, ex, ea, l, q⟩ => ?_) ht
  subst ex
  obtain rfl : u = Value.ref a := rx
  obtain ⟨mA, O, rr, _, _, _⟩ := ins_get I1.hok ea
  have hn : mA m = none := RelO.none_of (by rw [← l]; exact rr m)
  obtain ⟨od, J, hl⟩ := O.look
  refine getmethsi_ok I1 J (by rw [hl m, hn]) c fun s2 I2 => ?_
  refine PySem.W.callWith_K (h₀ := X.base) I2.ok.mod.kin c.kp (thn (ha.run pos pins s2 σ H1 _ I2 q) fun us s3 ⟨vs, H2, I3, rv, q2⟩ => ⟨I3.kIn, ?_⟩) hst hpl
  exact run_fn F hr hb hd hx I3 rv q2
end
/-- either way -/
abbrev tEitherV (t u : TE) : TE := fun σ H Q => t σ H Q ∨ u σ H Q
theorem PE.orT {X : Cx} {e : Expr} {t u : TE} (h1 : PE X e t) (h2 : PE X e u) : PE X e (tEitherV t u) := ⟨fun pins s σ H Q I h => h.elim (h1.run pins s σ H Q I) (h2.run pins s σ H Q I)⟩
end L2
namespace L2
open PySem PySem.Spec PyProof.Rows
/-! ### the facts of such a def -/
abbrev file0 : Str := "/claim/cut.py"
structure FileOk (P : Program) : Prop where
  file : ((P.main.file : Str) == file0) = true
  top : (P.main.scope.names.lookup ("super" : Str)).isSome = false
structure SuFun (K : PySem.W.Frag) (x qual : Str) (st : Stmt) (f : Addr) (fd : FuncData) (D : Addr) : Prop where
  ex : ∃ (cc cda : Addr) (oc : Value) (od : Option Addr) (dV kV doc pm : Value) (an : Option Addr) (ct : Value) (osl : Array (Option Value)) (cl : Value) (cld : Option Addr) (csl : Array (Option Value)) (ccl : Value) (cdd : Option Addr) (vs : Array Value) (ccs : Array (Option Value)) (tf : Tok),
    fd = PySem.W.ksFn x qual (defArgs st) (defBody st) (defScope st) dV kV doc pm an (.ref cda) ct cc ∧ K.lookup f = some ⟨oc, od, .func fd, osl⟩ ∧ PySem.W.codeIn K (.ref cda) qual = true ∧
    K.lookup cc = some ⟨cl, cld, .cell (some (.ref D)), csl⟩ ∧ K.lookup cda = some ⟨ccl, cdd, .fields vs, ccs⟩ ∧ vs[2]? = some (.str file0 tf) ∧
    (dV = .none ∨ ∃ TD o its n, dV = .ref TD ∧ K.lookup TD = some o ∧ o.data = .seq its n)
  cls : (PySem.W.clsIn K D).isSome = true
theorem SuFun.ok {P : Program} {w : World} {K : PySem.W.Frag} {mg : Str → Option Value} {base : Heap} {x qual : Str} {st : Stmt} {f D : Addr} {fd : FuncData} {N ps : List Str} {k : Nat} {sp : Sp} {ar : Arg} (hP : FileOk P) (F : SuFun K x qual st f fd D)
    (har : ((defArgs st).posonlyargs ++ (defArgs st).args).head? = some ar) (S : SuScope N ps (defScope st)) (len : ∀ vs H Q E, sp vs H Q E → vs.length = ps.length)
    (hbody : ∀ (cda cc : Addr) (A : Around) (outer : List Env) (s : Shared) (H : Hp) (vs : List V) (Q : VK) (E : XK), Room k (A.deeper (PySem.W.ksEnv qual (defScope st) s.heap.objs.size f (.ref cda) cc)) → SupOk P K f cda cc D ar.arg → sp vs H Q E →
      ∃ t, PSAts (cxS CX0 P w K mg base N qual (defScope st) f (.ref cda) cc A outer s H E) (defBody st) (defBody st) t ∧ t { nx := fun _ H' => Q .non H', rt := Q } (start N vs) H) :
    FnOk P w K mg base CX0 (k + 1) f fd ps sp := by
  obtain ⟨cc, cda, oc, od, dV, kV, doc, pm, an, ct, osl, cl, cld, csl, ccl, cdd, vs, ccs, tf, rfl, lk, hcd, lc, lcd, hv, hd⟩ := F.ex
  exact fn_ofS lk hcd lc S len fun A outer s H vs' Q E hr hsp => hbody cda cc A outer s H vs' Q E hr
    ⟨⟨oc, od, _, osl, ar, lk, har, rfl⟩, ⟨ccl, cdd, vs, ccs, file0, tf, lcd, hv, hP.file⟩, ⟨cl, cld, csl, lc⟩, F.cls, hP.top⟩ hsp
/-- the j-th statement of a class -/
def inCls (st : Stmt) (j : Nat) : Stmt := match st with
  | .ClassDef _ _ _ b _ _ _ _ _ _ _ => b.getD j (.Pass ⟨0, 0, 0, 0⟩)
  | _ => .Pass ⟨0, 0, 0, 0⟩
end L2
namespace L2
open PySem PySem.Spec PyProof.Rows
def g2 {α : Type} : List α → List α → List α
  | [a], [b] => [a, b]
  | _, _ => []
def g3a {α : Type} : List α → List α → List α
  | [a], [b, c] => [a, b, c]
  | _, _ => []
def g3b {α : Type} : List α → List α → List α
  | [a], [c, b] => [a, b, c]
  | _, _ => []
theorem rel_g2 {vs : List V} {us : List Value} {zs : List V} {ws : List Value} (r : Vals vs us) (z : Vals zs ws) : Vals (g2 vs zs) (g2 us ws) := by
  cases r with
  | nil => exact .nil
  | cons a r => cases r with
    | cons _ _ => exact .nil
    | nil => cases z with
      | nil => exact .nil
      | cons b z => cases z with
        | nil => exact .cons a (.cons b .nil)
        | cons _ _ => exact .nil
theorem rel_g3a {vs : List V} {us : List Value} {zs : List V} {ws : List Value} (r : Vals vs us) (z : Vals zs ws) : Vals (g3a vs zs) (g3a us ws) := by
  cases r with
  | nil => exact .nil
  | cons a r => cases r with
    | cons _ _ => exact .nil
    | nil => cases z with
      | nil => exact .nil
      | cons b z => cases z with
        | nil => exact .nil
        | cons c z => cases z with
          | nil => exact .cons a (.cons b (.cons c .nil))
          | cons _ _ => exact .nil
theorem rel_g3b {vs : List V} {us : List Value} {zs : List V} {ws : List Value} (r : Vals vs us) (z : Vals zs ws) : Vals (g3b vs zs) (g3b us ws) := by
  cases r with
  | nil => exact .nil
  | cons a r => cases r with
    | cons _ _ => exact .nil
    | nil => cases z with
      | nil => exact .nil
      | cons b z => cases z with
        | nil => exact .nil
        | cons c z => cases z with
          | nil => exact .cons a (.cons c (.cons b .nil))
          | cons _ _ => exact .nil
theorem looks_dflt {fd : FuncData} {args : Args} {K : PySem.W.Frag} {M : Model} {h : Heap} {T : Addr} {o : Obj} {its : Array Value} {n : Nat} {k : Option (Array Value) → Sem (List (Str × Value))} {r : List (Str × Value)} (X : K.In h) (lT : K.lookup T = some o) (oT : o.data = .seq its n)
    (e : bindArgs fd args = seqItems? (.ref T) >>= k) (e2 : k (some its) = pure r) : PySem.W.Looks M h (bindArgs fd args) r := by
  rw [e]
  exact looks_items X lT oT (.of_pure e2)
end L2

namespace K15
open PySem PySem.Spec PyProof.Rows L2 Lc
def topS (i : Nat) : Stmt := PySem.Challenge.pw_lowcolumns_k15_heights_recognized.main.body.getD i (.Pass ⟨0, 0, 0, 0⟩)
abbrev s_is_integer_within : Stmt := topS 11
abbrev nm_is_integer_within : List Str := ["value", "least", "greatest"]
theorem sc_is_integer_within : FnScope nm_is_integer_within ["value", "least", "greatest"] (defScope s_is_integer_within) :=
  ⟨rfl, rfl, rfl, by decide +kernel, rfl, by decide +kernel, by decide +kernel⟩
abbrev s_is_list_of_integers : Stmt := topS 12
abbrev nm_is_list_of_integers : List Str := ["value", "fewest", "most", "least", "greatest", "item"]
theorem sc_is_list_of_integers : FnScope nm_is_list_of_integers ["value", "fewest", "most", "least", "greatest"] (defScope s_is_list_of_integers) :=
  ⟨rfl, rfl, rfl, by decide +kernel, rfl, by decide +kernel, by decide +kernel⟩
abbrev s_is_one_height : Stmt := topS 13
abbrev nm_is_one_height : List Str := ["value"]
theorem sc_is_one_height : FnScope nm_is_one_height ["value"] (defScope s_is_one_height) :=
  ⟨rfl, rfl, rfl, by decide +kernel, rfl, by decide +kernel, by decide +kernel⟩
abbrev s_check_columns : Stmt := topS 14
abbrev nm_check_columns : List Str := ["columns"]
theorem sc_check_columns : FnScope nm_check_columns ["columns"] (defScope s_check_columns) :=
  ⟨rfl, rfl, rfl, by decide +kernel, rfl, by decide +kernel, by decide +kernel⟩
abbrev s_check_number : Stmt := topS 15
abbrev nm_check_number : List Str := ["number", "greatest"]
theorem sc_check_number : FnScope nm_check_number ["number", "greatest"] (defScope s_check_number) :=
  ⟨rfl, rfl, rfl, by decide +kernel, rfl, by decide +kernel, by decide +kernel⟩
abbrev s_is_start : Stmt := topS 17
abbrev nm_is_start : List Str := ["value"]
theorem sc_is_start : FnScope nm_is_start ["value"] (defScope s_is_start) :=
  ⟨rfl, rfl, rfl, by decide +kernel, rfl, by decide +kernel, by decide +kernel⟩
abbrev s_is_cards : Stmt := topS 18
abbrev nm_is_cards : List Str := ["value"]
theorem sc_is_cards : FnScope nm_is_cards ["value"] (defScope s_is_cards) :=
  ⟨rfl, rfl, rfl, by decide +kernel, rfl, by decide +kernel, by decide +kernel⟩
abbrev s_law_source : Stmt := topS 31
abbrev nm_law_source : List Str := ["cell", "number"]
theorem sc_law_source : FnScope nm_law_source ["cell", "number"] (defScope s_law_source) :=
  ⟨rfl, rfl, rfl, by decide +kernel, rfl, by decide +kernel, by decide +kernel⟩
abbrev s_law_draw : Stmt := topS 32
abbrev nm_law_draw : List Str := ["source", "count", "digit"]
theorem sc_law_draw : FnScope nm_law_draw ["source", "count"] (defScope s_law_draw) :=
  ⟨rfl, rfl, rfl, by decide +kernel, rfl, by decide +kernel, by decide +kernel⟩
abbrev s_law_cells : Stmt := topS 33
abbrev nm_law_cells : List Str := ["script", "count"]
theorem sc_law_cells : FnScope nm_law_cells ["script", "count"] (defScope s_law_cells) :=
  ⟨rfl, rfl, rfl, by decide +kernel, rfl, by decide +kernel, by decide +kernel⟩
abbrev s_law_right : Stmt := topS 34
abbrev nm_law_right : List Str := ["thing", "expected", "results"]
theorem sc_law_right : FnScope nm_law_right ["thing"] (defScope s_law_right) :=
  ⟨rfl, rfl, rfl, by decide +kernel, rfl, by decide +kernel, by decide +kernel⟩
abbrev s_law : Stmt := topS 35
abbrev nm_law : List Str := ["script", "others", "k", "cell", "source", "turn", "low", "high", "made", "thing", "one"]
theorem sc_law : FnScope nm_law ["script"] (defScope s_law) :=
  ⟨rfl, rfl, rfl, by decide +kernel, rfl, by decide +kernel, by decide +kernel⟩
abbrev s_Wall_is_height : Stmt := inCls (topS 26) 8
abbrev nm_Wall_is_height : List Str := ["value"]
theorem sc_Wall_is_height : FnScope nm_Wall_is_height ["value"] (defScope s_Wall_is_height) :=
  ⟨rfl, rfl, rfl, by decide +kernel, rfl, by decide +kernel, by decide +kernel⟩
abbrev s_Wall_width : Stmt := inCls (topS 26) 24
abbrev nm_Wall_width : List Str := ["self"]
theorem sc_Wall_width : FnScope nm_Wall_width ["self"] (defScope s_Wall_width) :=
  ⟨rfl, rfl, rfl, by decide +kernel, rfl, by decide +kernel, by decide +kernel⟩
abbrev s_RightWall_is_height : Stmt := inCls (topS 27) 1
abbrev nm_RightWall_is_height : List Str := ["value"]
theorem sc_RightWall_is_height : FnScope nm_RightWall_is_height ["value"] (defScope s_RightWall_is_height) :=
  ⟨rfl, rfl, rfl, by decide +kernel, rfl, by decide +kernel, by decide +kernel⟩
abbrev s_RightWall_width : Stmt := inCls (topS 27) 17
abbrev nm_RightWall_width : List Str := ["self"]
theorem sc_RightWall_width : FnScope nm_RightWall_width ["self"] (defScope s_RightWall_width) :=
  ⟨rfl, rfl, rfl, by decide +kernel, rfl, by decide +kernel, by decide +kernel⟩
abbrev s_GapWall_is_height : Stmt := inCls (topS 28) 1
abbrev nm_GapWall_is_height : List Str := ["value"]
theorem sc_GapWall_is_height : FnScope nm_GapWall_is_height ["value"] (defScope s_GapWall_is_height) :=
  ⟨rfl, rfl, rfl, by decide +kernel, rfl, by decide +kernel, by decide +kernel⟩
abbrev s_GapWall_width : Stmt := inCls (topS 28) 17
abbrev nm_GapWall_width : List Str := ["self"]
theorem sc_GapWall_width : FnScope nm_GapWall_width ["self"] (defScope s_GapWall_width) :=
  ⟨rfl, rfl, rfl, by decide +kernel, rfl, by decide +kernel, by decide +kernel⟩
abbrev s_GapWall_gap : Stmt := inCls (topS 28) 18
abbrev nm_GapWall_gap : List Str := ["self"]
theorem sc_GapWall_gap : FnScope nm_GapWall_gap ["self"] (defScope s_GapWall_gap) :=
  ⟨rfl, rfl, rfl, by decide +kernel, rfl, by decide +kernel, by decide +kernel⟩
abbrev s_GapRightWall_is_height : Stmt := inCls (topS 29) 1
abbrev nm_GapRightWall_is_height : List Str := ["value"]
theorem sc_GapRightWall_is_height : FnScope nm_GapRightWall_is_height ["value"] (defScope s_GapRightWall_is_height) :=
  ⟨rfl, rfl, rfl, by decide +kernel, rfl, by decide +kernel, by decide +kernel⟩
abbrev s_GapRightWall_width : Stmt := inCls (topS 29) 17
abbrev nm_GapRightWall_width : List Str := ["self"]
theorem sc_GapRightWall_width : FnScope nm_GapRightWall_width ["self"] (defScope s_GapRightWall_width) :=
  ⟨rfl, rfl, rfl, by decide +kernel, rfl, by decide +kernel, by decide +kernel⟩
abbrev s_GapRightWall_gap : Stmt := inCls (topS 29) 18
abbrev nm_GapRightWall_gap : List Str := ["self"]
theorem sc_GapRightWall_gap : FnScope nm_GapRightWall_gap ["self"] (defScope s_GapRightWall_gap) :=
  ⟨rfl, rfl, rfl, by decide +kernel, rfl, by decide +kernel, by decide +kernel⟩
abbrev s_Wall_init : Stmt := inCls (topS 26) 1
abbrev nm_Wall_init : List Str := ["self", "columns"]
theorem sc_Wall_init : FnScope nm_Wall_init ["self", "columns"] (defScope s_Wall_init) :=
  ⟨rfl, rfl, rfl, by decide +kernel, rfl, by decide +kernel, by decide +kernel⟩
abbrev s_RightWall_init : Stmt := inCls (topS 27) 0
abbrev nm_RightWall_init : List Str := ["self", "columns"]
theorem sc_RightWall_init : SuScope nm_RightWall_init ["self", "columns"] (defScope s_RightWall_init) :=
  ⟨rfl, rfl, rfl, by decide +kernel, rfl, by decide +kernel, by decide +kernel, by decide +kernel⟩
abbrev s_GapWall_init : Stmt := inCls (topS 28) 0
abbrev nm_GapWall_init : List Str := ["self", "columns", "gap"]
theorem sc_GapWall_init : SuScope nm_GapWall_init ["self", "columns", "gap"] (defScope s_GapWall_init) :=
  ⟨rfl, rfl, rfl, by decide +kernel, rfl, by decide +kernel, by decide +kernel, by decide +kernel⟩
abbrev s_GapRightWall_init : Stmt := inCls (topS 29) 0
abbrev nm_GapRightWall_init : List Str := ["self", "columns", "gap"]
theorem sc_GapRightWall_init : SuScope nm_GapRightWall_init ["self", "columns", "gap"] (defScope s_GapRightWall_init) :=
  ⟨rfl, rfl, rfl, by decide +kernel, rfl, by decide +kernel, by decide +kernel, by decide +kernel⟩
set_option maxHeartbeats 4000000 in
structure Txt (K : PySem.W.Frag) (mg : Str → Option Value) where
  a_is_integer_within : Addr
  d_is_integer_within : FuncData
  F_is_integer_within : Fun K "is_integer_within" "is_integer_within" s_is_integer_within a_is_integer_within d_is_integer_within
  b_is_integer_within : Binds K d_is_integer_within ["value", "least", "greatest"] []
  g_is_integer_within : mg "is_integer_within" = some (.ref a_is_integer_within)
  a_is_list_of_integers : Addr
  d_is_list_of_integers : FuncData
  F_is_list_of_integers : Fun K "is_list_of_integers" "is_list_of_integers" s_is_list_of_integers a_is_list_of_integers d_is_list_of_integers
  b_is_list_of_integers : Binds K d_is_list_of_integers ["value", "fewest", "most", "least", "greatest"] []
  g_is_list_of_integers : mg "is_list_of_integers" = some (.ref a_is_list_of_integers)
  a_is_one_height : Addr
  d_is_one_height : FuncData
  F_is_one_height : Fun K "is_one_height" "is_one_height" s_is_one_height a_is_one_height d_is_one_height
  b_is_one_height : Binds K d_is_one_height ["value"] []
  g_is_one_height : mg "is_one_height" = some (.ref a_is_one_height)
  a_check_columns : Addr
  d_check_columns : FuncData
  F_check_columns : Fun K "check_columns" "check_columns" s_check_columns a_check_columns d_check_columns
  b_check_columns : Binds K d_check_columns ["columns"] []
  g_check_columns : mg "check_columns" = some (.ref a_check_columns)
  a_check_number : Addr
  d_check_number : FuncData
  F_check_number : Fun K "check_number" "check_number" s_check_number a_check_number d_check_number
  b_check_number : Binds K d_check_number ["number", "greatest"] []
  g_check_number : mg "check_number" = some (.ref a_check_number)
  a_is_start : Addr
  d_is_start : FuncData
  F_is_start : Fun K "is_start" "is_start" s_is_start a_is_start d_is_start
  b_is_start : Binds K d_is_start ["value"] []
  g_is_start : mg "is_start" = some (.ref a_is_start)
  a_is_cards : Addr
  d_is_cards : FuncData
  F_is_cards : Fun K "is_cards" "is_cards" s_is_cards a_is_cards d_is_cards
  b_is_cards : Binds K d_is_cards ["value"] []
  g_is_cards : mg "is_cards" = some (.ref a_is_cards)
  a_law_source : Addr
  d_law_source : FuncData
  F_law_source : Fun K "_law_source" "_law_source" s_law_source a_law_source d_law_source
  b_law_source : Binds K d_law_source ["cell", "number"] []
  g_law_source : mg "_law_source" = some (.ref a_law_source)
  a_law_draw : Addr
  d_law_draw : FuncData
  F_law_draw : Fun K "_law_draw" "_law_draw" s_law_draw a_law_draw d_law_draw
  b_law_draw : Binds K d_law_draw ["source", "count"] []
  g_law_draw : mg "_law_draw" = some (.ref a_law_draw)
  a_law_cells : Addr
  d_law_cells : FuncData
  F_law_cells : Fun K "_law_cells" "_law_cells" s_law_cells a_law_cells d_law_cells
  b_law_cells : Binds K d_law_cells ["script", "count"] []
  g_law_cells : mg "_law_cells" = some (.ref a_law_cells)
  a_law_right : Addr
  d_law_right : FuncData
  F_law_right : Fun K "_law_right" "_law_right" s_law_right a_law_right d_law_right
  b_law_right : Binds K d_law_right ["thing"] []
  g_law_right : mg "_law_right" = some (.ref a_law_right)
  a_law : Addr
  d_law : FuncData
  F_law : Fun K "law" "law" s_law a_law d_law
  b_law : Binds K d_law ["script"] []
  g_law : mg "law" = some (.ref a_law)
  z_isinstance : mg "isinstance" = none
  z_bool : mg "bool" = none
  z_int : mg "int" = none
  z_len : mg "len" = none
  z_type : mg "type" = none
  z_list : mg "list" = none
  z_all : mg "all" = none
  z_max : mg "max" = none
  z_repr : mg "repr" = none
  z_enumerate : mg "enumerate" = none
  z_range : mg "range" = none
  t_MOST_HEIGHT : Tok
  c_MOST_HEIGHT : mg "MOST_HEIGHT" = some (.int (1000000000000000000000000000000) t_MOST_HEIGHT)
  t_MOST_COLUMNS : Tok
  c_MOST_COLUMNS : mg "MOST_COLUMNS" = some (.int (30) t_MOST_COLUMNS)
  t_MOST_CARDS : Tok
  c_MOST_CARDS : mg "MOST_CARDS" = some (.int (200) t_MOST_CARDS)
  C_Wall : Addr
  gc_Wall : mg "Wall" = some (.ref C_Wall)
  C_RightWall : Addr
  gc_RightWall : mg "RightWall" = some (.ref C_RightWall)
  C_GapWall : Addr
  gc_GapWall : mg "GapWall" = some (.ref C_GapWall)
  C_GapRightWall : Addr
  gc_GapRightWall : mg "GapRightWall" = some (.ref C_GapRightWall)
  cl_Wall : Cls K C_Wall
  rd_Wall : ClX.CRead K C_Wall (.type "type")
  fi_Wall : Addr
  di_Wall : FuncData
  mk_Wall : Mk K C_Wall fi_Wall
  cv_Wall : ∃ t, ClX.CVal K C_Wall (.type "type") "MOST" (.int 200) (.int 200 t)
  p_Wall : Addr
  h_Wall : Addr
  dis_height_Wall : FuncData
  sm_Wall_is_height : SMet K C_Wall (.type "type") "is_height" p_Wall h_Wall
  si_Wall_is_height : SInst K C_Wall "is_height" p_Wall h_Wall
  Fis_height_Wall : Fun K "is_height" "Wall.is_height" s_Wall_is_height h_Wall dis_height_Wall
  bis_height_Wall : Binds K dis_height_Wall ["value"] []
  q_Wall : Addr
  w_Wall : Addr
  dwidth_Wall : FuncData
  pwidth_Wall : PropOf K C_Wall "width" q_Wall w_Wall
  Fwidth_Wall : Fun K "width" "Wall.width" s_Wall_width w_Wall dwidth_Wall
  bwidth_Wall : Binds K dwidth_Wall ["self"] []
  na_columns_Wall : NoAttr K C_Wall "_columns"
  na_right_Wall : NoAttr K C_Wall "_right"
  na_gap_Wall : NoAttr K C_Wall "_gap"
  na_cards_Wall : NoAttr K C_Wall "_cards"
  na_calls_Wall : NoAttr K C_Wall "_calls"
  cl_RightWall : Cls K C_RightWall
  rd_RightWall : ClX.CRead K C_RightWall (.type "type")
  fi_RightWall : Addr
  di_RightWall : FuncData
  mk_RightWall : Mk K C_RightWall fi_RightWall
  cv_RightWall : ∃ t, ClX.CVal K C_RightWall (.type "type") "MOST" (.int 200) (.int 200 t)
  p_RightWall : Addr
  h_RightWall : Addr
  dis_height_RightWall : FuncData
  sm_RightWall_is_height : SMet K C_RightWall (.type "type") "is_height" p_RightWall h_RightWall
  si_RightWall_is_height : SInst K C_RightWall "is_height" p_RightWall h_RightWall
  Fis_height_RightWall : Fun K "is_height" "RightWall.is_height" s_RightWall_is_height h_RightWall dis_height_RightWall
  bis_height_RightWall : Binds K dis_height_RightWall ["value"] []
  q_RightWall : Addr
  w_RightWall : Addr
  dwidth_RightWall : FuncData
  pwidth_RightWall : PropOf K C_RightWall "width" q_RightWall w_RightWall
  Fwidth_RightWall : Fun K "width" "RightWall.width" s_RightWall_width w_RightWall dwidth_RightWall
  bwidth_RightWall : Binds K dwidth_RightWall ["self"] []
  na_columns_RightWall : NoAttr K C_RightWall "_columns"
  na_right_RightWall : NoAttr K C_RightWall "_right"
  na_gap_RightWall : NoAttr K C_RightWall "_gap"
  na_cards_RightWall : NoAttr K C_RightWall "_cards"
  na_calls_RightWall : NoAttr K C_RightWall "_calls"
  cl_GapWall : Cls K C_GapWall
  rd_GapWall : ClX.CRead K C_GapWall (.type "type")
  fi_GapWall : Addr
  di_GapWall : FuncData
  mk_GapWall : Mk K C_GapWall fi_GapWall
  cv_GapWall : ∃ t, ClX.CVal K C_GapWall (.type "type") "MOST" (.int 200) (.int 200 t)
  p_GapWall : Addr
  h_GapWall : Addr
  dis_height_GapWall : FuncData
  sm_GapWall_is_height : SMet K C_GapWall (.type "type") "is_height" p_GapWall h_GapWall
  si_GapWall_is_height : SInst K C_GapWall "is_height" p_GapWall h_GapWall
  Fis_height_GapWall : Fun K "is_height" "GapWall.is_height" s_GapWall_is_height h_GapWall dis_height_GapWall
  bis_height_GapWall : Binds K dis_height_GapWall ["value"] []
  q_GapWall : Addr
  w_GapWall : Addr
  dwidth_GapWall : FuncData
  pwidth_GapWall : PropOf K C_GapWall "width" q_GapWall w_GapWall
  Fwidth_GapWall : Fun K "width" "GapWall.width" s_GapWall_width w_GapWall dwidth_GapWall
  bwidth_GapWall : Binds K dwidth_GapWall ["self"] []
  qg_GapWall : Addr
  wg_GapWall : Addr
  dgap_GapWall : FuncData
  pgap_GapWall : PropOf K C_GapWall "gap" qg_GapWall wg_GapWall
  Fgap_GapWall : Fun K "gap" "GapWall.gap" s_GapWall_gap wg_GapWall dgap_GapWall
  bgap_GapWall : Binds K dgap_GapWall ["self"] []
  na_columns_GapWall : NoAttr K C_GapWall "_columns"
  na_right_GapWall : NoAttr K C_GapWall "_right"
  na_gap_GapWall : NoAttr K C_GapWall "_gap"
  na_cards_GapWall : NoAttr K C_GapWall "_cards"
  na_calls_GapWall : NoAttr K C_GapWall "_calls"
  cl_GapRightWall : Cls K C_GapRightWall
  rd_GapRightWall : ClX.CRead K C_GapRightWall (.type "type")
  fi_GapRightWall : Addr
  di_GapRightWall : FuncData
  mk_GapRightWall : Mk K C_GapRightWall fi_GapRightWall
  cv_GapRightWall : ∃ t, ClX.CVal K C_GapRightWall (.type "type") "MOST" (.int 200) (.int 200 t)
  p_GapRightWall : Addr
  h_GapRightWall : Addr
  dis_height_GapRightWall : FuncData
  sm_GapRightWall_is_height : SMet K C_GapRightWall (.type "type") "is_height" p_GapRightWall h_GapRightWall
  si_GapRightWall_is_height : SInst K C_GapRightWall "is_height" p_GapRightWall h_GapRightWall
  Fis_height_GapRightWall : Fun K "is_height" "GapRightWall.is_height" s_GapRightWall_is_height h_GapRightWall dis_height_GapRightWall
  bis_height_GapRightWall : Binds K dis_height_GapRightWall ["value"] []
  q_GapRightWall : Addr
  w_GapRightWall : Addr
  dwidth_GapRightWall : FuncData
  pwidth_GapRightWall : PropOf K C_GapRightWall "width" q_GapRightWall w_GapRightWall
  Fwidth_GapRightWall : Fun K "width" "GapRightWall.width" s_GapRightWall_width w_GapRightWall dwidth_GapRightWall
  bwidth_GapRightWall : Binds K dwidth_GapRightWall ["self"] []
  qg_GapRightWall : Addr
  wg_GapRightWall : Addr
  dgap_GapRightWall : FuncData
  pgap_GapRightWall : PropOf K C_GapRightWall "gap" qg_GapRightWall wg_GapRightWall
  Fgap_GapRightWall : Fun K "gap" "GapRightWall.gap" s_GapRightWall_gap wg_GapRightWall dgap_GapRightWall
  bgap_GapRightWall : Binds K dgap_GapRightWall ["self"] []
  na_columns_GapRightWall : NoAttr K C_GapRightWall "_columns"
  na_right_GapRightWall : NoAttr K C_GapRightWall "_right"
  na_gap_GapRightWall : NoAttr K C_GapRightWall "_gap"
  na_cards_GapRightWall : NoAttr K C_GapRightWall "_cards"
  na_calls_GapRightWall : NoAttr K C_GapRightWall "_calls"
  Fi_Wall : Fun K "__init__" "Wall.__init__" s_Wall_init fi_Wall di_Wall
  bi_Wall : Binds K di_Wall ["self", "columns"] []
  kb_Wall : KBn K di_Wall ["self", "columns"] 1 ["columns"] g2 g2
  Su_RightWall : SuFun K "__init__" "RightWall.__init__" s_RightWall_init fi_RightWall di_RightWall C_RightWall
  bi_RightWall : Binds K di_RightWall ["self", "columns"] []
  kb_RightWall : KBn K di_RightWall ["self", "columns"] 1 ["columns"] g2 g2
  Su_GapWall : SuFun K "__init__" "GapWall.__init__" s_GapWall_init fi_GapWall di_GapWall C_GapWall
  bi_GapWall : Binds K di_GapWall ["self", "columns", "gap"] []
  kb_GapWall : KBn K di_GapWall ["self", "columns", "gap"] 1 ["gap", "columns"] g3b g3b
  Su_GapRightWall : SuFun K "__init__" "GapRightWall.__init__" s_GapRightWall_init fi_GapRightWall di_GapRightWall C_GapRightWall
  bi_GapRightWall : Binds K di_GapRightWall ["self", "columns", "gap"] []
  kb_GapRightWall : KBn K di_GapRightWall ["self", "columns", "gap"] 1 ["columns", "gap"] g3a g3a
  t_MOST_NUMBER : Tok
  c_MOST_NUMBER : mg "MOST_NUMBER" = some (.int (1000000000000000000000000000000) t_MOST_NUMBER)
  z_super : mg "super" = none
  to_RightWall_RightWall : SupTo K C_RightWall C_RightWall fi_Wall "__init__"
  to_GapWall_GapWall : SupTo K C_GapWall C_GapWall fi_Wall "__init__"
  to_GapRightWall_GapRightWall : SupTo K C_GapRightWall C_GapRightWall fi_GapWall "__init__"
  to_GapRightWall_GapWall : SupTo K C_GapRightWall C_GapWall fi_RightWall "__init__"
  to_GapRightWall_RightWall : SupTo K C_GapRightWall C_RightWall fi_Wall "__init__"
section
variable {P : Program} {w : World} {K : PySem.W.Frag} {mg : Str → Option Value} {base : Heap}
abbrev big : Int := 1000000000000000000000000000000
abbrev others6 : List String := ["NoneType", "bool", "str", "list", "tuple", "dict"]
def okI (lo hi : Int) : Option Int → Bool
  | some n => decide (lo ≤ n ∧ n ≤ hi)
  | none => false
/-- an int, or a value of another type -/
def Av (K : PySem.W.Frag) (H : Hp) (x : V) (d : Option Int) : Prop := (∃ n, x = .int n ∧ d = some n) ∨ (d = none ∧ ∃ T ∈ others6, TyOf K H x (.type T))
theorem kI : ∀ T ∈ others6, kitB T "int" = some (decide (T = "bool")) := by decide +kernel
theorem kB : ∀ T ∈ others6, kitB T "bool" = some (decide (T = "bool")) := by decide +kernel
def spAI (K : PySem.W.Frag) : Sp := fun vs H Q _ => ∃ (x : V) (d : Option Int) (lo hi : Int), vs = [x, .int lo, .int hi] ∧ Av K H x d ∧ Q (.bl (okI lo hi d)) H
theorem ok_is_integer_within (T : Txt K mg) : FnOk P w K mg base CX0 1 T.a_is_integer_within T.d_is_integer_within ["value", "least", "greatest"] (spAI K) := by
  refine T.F_is_integer_within.ok sc_is_integer_within (fun vs H Q E h => ?_) (fun cdv A outer s H vs Q E hr h => ?_)
  · obtain ⟨x, d, lo, hi, rfl, _⟩ := h; rfl
  · obtain ⟨x, d, lo, hi, rfl, hv, q⟩ := h
    refine ⟨_, (pss_cons (ps_if (PW.pt (pw_or (pt_not (pt_val (pe_callB call_isi (by rfl) T.z_isinstance (by decide +kernel) (pa_cons (pv 0) (pa_cons (pe_bltn (v := .ty "int") (by rfl) T.z_int (by decide +kernel) rfl) pa_nil))))) (pw_or1 (pt_val (pe_callB call_isi (by rfl) T.z_isinstance (by decide +kernel) (pa_cons (pv 0) (pa_cons (pe_bltn (v := .ty "bool") (by rfl) T.z_bool (by decide +kernel) rfl) pa_nil)))))))
  (pss_one (ps_ret pe_bl))
  pss_nil)
  (pss_one (ps_ret (pe_chain op_le op_le (pv 1) (pv 0) (pv 2))))), ?_⟩
    rcases hv with ⟨v, rfl, rfl⟩ | ⟨rfl, T, hT, ty⟩
    · refine ⟨.int v, rfl, .int v, .ty "int", .type "int", .type "int", true, rfl, .ty _, .base (.int v), kit_ty (by decide +kernel), true, rfl, ?_⟩
      refine iteF ⟨.int v, rfl, .int v, .ty "bool", .type "int", .type "bool", false, rfl, .ty _, .base (.int v), kit_ty (by decide +kernel), false, rfl, iteF ?_⟩
      refine ⟨.int lo, rfl, .int v, rfl, lo, v, rfl, rfl, decide (lo ≤ v), rfl, ?_⟩
      by_cases h1 : lo ≤ v
      · rw [decide_eq_true h1]
        refine iteT ⟨.int hi, rfl, v, hi, rfl, rfl, ?_⟩
        have e : decide (v ≤ hi) = okI lo hi (some v) := by simp [okI, h1]
        show Q (.bl (decide (v ≤ hi))) H
        rw [e]
        exact q
      · rw [decide_eq_false h1]
        refine iteF ?_
        rw [show okI lo hi (some v) = false by simp [okI, h1]] at q
        exact q
    · have q : Q (.bl false) H := q
      refine ⟨x, rfl, x, .ty "int", .type T, .type "int", _, rfl, .ty _, .base ty, kit_ty (kI T hT), _, rfl, ?_⟩
      by_cases hb : T = "bool"
      · rw [decide_eq_true hb]
        refine iteF ⟨x, rfl, x, .ty "bool", .type T, .type "bool", _, rfl, .ty _, .base ty, kit_ty (kB T hT), _, rfl, ?_⟩
        rw [decide_eq_true hb]
        exact iteT q
      · rw [decide_eq_false hb]
        exact iteT q
def spOH (K : PySem.W.Frag) : Sp := fun vs H Q _ => ∃ (x : V) (d : Option Int), vs = [x] ∧ Av K H x d ∧ Q (.bl (okI 1 big d)) H
theorem ok_is_one_height (T : Txt K mg) : FnOk P w K mg base CX0 2 T.a_is_one_height T.d_is_one_height ["value"] (spOH K) := by
  refine T.F_is_one_height.ok sc_is_one_height (fun vs H Q E h => ?_) (fun cdv A outer s H vs Q E hr h => ?_)
  · obtain ⟨x, d, rfl, _⟩ := h; rfl
  · obtain ⟨x, d, rfl, hv, q⟩ := h
    refine ⟨_, (pss_one (ps_ret (pe_call (ok_is_integer_within T) hr (by rfl) T.g_is_integer_within T.F_is_integer_within.kp T.b_is_integer_within .nil pass0 (pa_cons (pv 0) (pa_cons pe_int (pa_cons (pe_glob (v := .int 1000000000000000000000000000000) (by rfl) T.c_MOST_HEIGHT ⟨_, rfl⟩) pa_nil)))))), ?_⟩
    exact ⟨x, rfl, x, d, 1, big, rfl, hv, q⟩
def spCC : Sp := fun vs H Q _ => ∃ n : Int, vs = [.int n] ∧ 1 ≤ n ∧ n ≤ 30 ∧ Q .non H
theorem ok_check_columns (T : Txt K mg) : FnOk P w K mg base CX0 2 T.a_check_columns T.d_check_columns ["columns"] spCC := by
  refine T.F_check_columns.ok sc_check_columns (fun vs H Q E h => ?_) (fun cdv A outer s H vs Q E hr h => ?_)
  · obtain ⟨n, rfl, _⟩ := h; rfl
  · obtain ⟨n, rfl, n1, n2, q⟩ := h
    refine ⟨_, (pss_one (ps_if (pt_not (pt_val (pe_call (ok_is_integer_within T) hr (by rfl) T.g_is_integer_within T.F_is_integer_within.kp T.b_is_integer_within .nil pass0 (pa_cons (pv 0) (pa_cons pe_int (pa_cons (pe_glob (v := .int 30) (by rfl) T.c_MOST_COLUMNS ⟨_, rfl⟩) pa_nil))))))
  (pss_one ps_never)
  pss_nil)), ?_⟩
    refine ⟨.int n, rfl, .int n, some n, 1, 30, rfl, .inl ⟨n, rfl, rfl⟩, _, rfl, ?_⟩
    rw [show okI 1 30 (some n) = true from decide_eq_true ⟨n1, n2⟩]
    exact iteF q
def spCN : Sp := fun vs H Q _ => ∃ n g : Int, vs = [.int n, .int g] ∧ 0 ≤ n ∧ n ≤ g ∧ Q .non H
theorem ok_check_number (T : Txt K mg) : FnOk P w K mg base CX0 2 T.a_check_number T.d_check_number ["number", "greatest"] spCN := by
  refine T.F_check_number.ok sc_check_number (fun vs H Q E h => ?_) (fun cdv A outer s H vs Q E hr h => ?_)
  · obtain ⟨n, g, rfl, _⟩ := h; rfl
  · obtain ⟨n, g, rfl, n1, n2, q⟩ := h
    refine ⟨_, (pss_one (ps_if (pt_not (pt_val (pe_call (ok_is_integer_within T) hr (by rfl) T.g_is_integer_within T.F_is_integer_within.kp T.b_is_integer_within .nil pass0 (pa_cons (pv 0) (pa_cons pe_int (pa_cons (pv 1) pa_nil))))))
  (pss_one ps_never)
  pss_nil)), ?_⟩
    refine ⟨.int n, rfl, .int g, rfl, .int n, some n, 0, g, rfl, .inl ⟨n, rfl, rfl⟩, _, rfl, ?_⟩
    rw [show okI 0 g (some n) = true from decide_eq_true ⟨n1, n2⟩]
    exact iteF q
theorem ok_Wall_is_height (T : Txt K mg) : FnOk P w K mg base CX0 3 T.h_Wall T.dis_height_Wall ["value"] (spOH K) := by
  refine T.Fis_height_Wall.ok sc_Wall_is_height (fun vs H Q E h => ?_) (fun cdv A outer s H vs Q E hr h => ?_)
  · obtain ⟨x, d, rfl, _⟩ := h; rfl
  · obtain ⟨x, d, rfl, hv, q⟩ := h
    refine ⟨_, pss_one (ps_ret (pe_call (ok_is_one_height T) hr (by rfl) T.g_is_one_height T.F_is_one_height.kp T.b_is_one_height .nil pass0 (pa_cons (pv 0) pa_nil))), ?_⟩
    exact ⟨x, rfl, x, d, rfl, hv, q⟩
theorem ok_Wall_width (T : Txt K mg) : FnOk P w K mg base CX0 1 T.w_Wall T.dwidth_Wall ["self"] (getSp T.C_Wall "_columns") := by
  refine T.Fwidth_Wall.ok sc_Wall_width (fun vs H Q E h => ?_) (fun cdv A outer s H vs Q E hr h => ?_)
  · obtain ⟨a, dx, fs, v, rfl, _⟩ := h; rfl
  · obtain ⟨a, dx, fs, v, rfl, ea, l, q⟩ := h
    refine ⟨_, pss_one (ps_ret (pe_fld (pv 0) (by rfl))), ?_⟩
    exact ⟨.ref a, rfl, a, T.C_Wall, dx, fs, v, rfl, ea, T.cl_Wall, T.na_columns_Wall, l, q⟩
theorem ok_RightWall_is_height (T : Txt K mg) : FnOk P w K mg base CX0 3 T.h_RightWall T.dis_height_RightWall ["value"] (spOH K) := by
  refine T.Fis_height_RightWall.ok sc_RightWall_is_height (fun vs H Q E h => ?_) (fun cdv A outer s H vs Q E hr h => ?_)
  · obtain ⟨x, d, rfl, _⟩ := h; rfl
  · obtain ⟨x, d, rfl, hv, q⟩ := h
    refine ⟨_, pss_one (ps_ret (pe_call (ok_is_one_height T) hr (by rfl) T.g_is_one_height T.F_is_one_height.kp T.b_is_one_height .nil pass0 (pa_cons (pv 0) pa_nil))), ?_⟩
    exact ⟨x, rfl, x, d, rfl, hv, q⟩
theorem ok_RightWall_width (T : Txt K mg) : FnOk P w K mg base CX0 1 T.w_RightWall T.dwidth_RightWall ["self"] (getSp T.C_RightWall "_columns") := by
  refine T.Fwidth_RightWall.ok sc_RightWall_width (fun vs H Q E h => ?_) (fun cdv A outer s H vs Q E hr h => ?_)
  · obtain ⟨a, dx, fs, v, rfl, _⟩ := h; rfl
  · obtain ⟨a, dx, fs, v, rfl, ea, l, q⟩ := h
    refine ⟨_, pss_one (ps_ret (pe_fld (pv 0) (by rfl))), ?_⟩
    exact ⟨.ref a, rfl, a, T.C_RightWall, dx, fs, v, rfl, ea, T.cl_RightWall, T.na_columns_RightWall, l, q⟩
theorem ok_GapWall_is_height (T : Txt K mg) : FnOk P w K mg base CX0 3 T.h_GapWall T.dis_height_GapWall ["value"] (spOH K) := by
  refine T.Fis_height_GapWall.ok sc_GapWall_is_height (fun vs H Q E h => ?_) (fun cdv A outer s H vs Q E hr h => ?_)
  · obtain ⟨x, d, rfl, _⟩ := h; rfl
  · obtain ⟨x, d, rfl, hv, q⟩ := h
    refine ⟨_, pss_one (ps_ret (pe_call (ok_is_one_height T) hr (by rfl) T.g_is_one_height T.F_is_one_height.kp T.b_is_one_height .nil pass0 (pa_cons (pv 0) pa_nil))), ?_⟩
    exact ⟨x, rfl, x, d, rfl, hv, q⟩
theorem ok_GapWall_width (T : Txt K mg) : FnOk P w K mg base CX0 1 T.w_GapWall T.dwidth_GapWall ["self"] (getSp T.C_GapWall "_columns") := by
  refine T.Fwidth_GapWall.ok sc_GapWall_width (fun vs H Q E h => ?_) (fun cdv A outer s H vs Q E hr h => ?_)
  · obtain ⟨a, dx, fs, v, rfl, _⟩ := h; rfl
  · obtain ⟨a, dx, fs, v, rfl, ea, l, q⟩ := h
    refine ⟨_, pss_one (ps_ret (pe_fld (pv 0) (by rfl))), ?_⟩
    exact ⟨.ref a, rfl, a, T.C_GapWall, dx, fs, v, rfl, ea, T.cl_GapWall, T.na_columns_GapWall, l, q⟩
theorem ok_GapWall_gap (T : Txt K mg) : FnOk P w K mg base CX0 1 T.wg_GapWall T.dgap_GapWall ["self"] (getSp T.C_GapWall "_gap") := by
  refine T.Fgap_GapWall.ok sc_GapWall_gap (fun vs H Q E h => ?_) (fun cdv A outer s H vs Q E hr h => ?_)
  · obtain ⟨a, dx, fs, v, rfl, _⟩ := h; rfl
  · obtain ⟨a, dx, fs, v, rfl, ea, l, q⟩ := h
    refine ⟨_, pss_one (ps_ret (pe_fld (pv 0) (by rfl))), ?_⟩
    exact ⟨.ref a, rfl, a, T.C_GapWall, dx, fs, v, rfl, ea, T.cl_GapWall, T.na_gap_GapWall, l, q⟩
theorem ok_GapRightWall_is_height (T : Txt K mg) : FnOk P w K mg base CX0 3 T.h_GapRightWall T.dis_height_GapRightWall ["value"] (spOH K) := by
  refine T.Fis_height_GapRightWall.ok sc_GapRightWall_is_height (fun vs H Q E h => ?_) (fun cdv A outer s H vs Q E hr h => ?_)
  · obtain ⟨x, d, rfl, _⟩ := h; rfl
  · obtain ⟨x, d, rfl, hv, q⟩ := h
    refine ⟨_, pss_one (ps_ret (pe_call (ok_is_one_height T) hr (by rfl) T.g_is_one_height T.F_is_one_height.kp T.b_is_one_height .nil pass0 (pa_cons (pv 0) pa_nil))), ?_⟩
    exact ⟨x, rfl, x, d, rfl, hv, q⟩
theorem ok_GapRightWall_width (T : Txt K mg) : FnOk P w K mg base CX0 1 T.w_GapRightWall T.dwidth_GapRightWall ["self"] (getSp T.C_GapRightWall "_columns") := by
  refine T.Fwidth_GapRightWall.ok sc_GapRightWall_width (fun vs H Q E h => ?_) (fun cdv A outer s H vs Q E hr h => ?_)
  · obtain ⟨a, dx, fs, v, rfl, _⟩ := h; rfl
  · obtain ⟨a, dx, fs, v, rfl, ea, l, q⟩ := h
    refine ⟨_, pss_one (ps_ret (pe_fld (pv 0) (by rfl))), ?_⟩
    exact ⟨.ref a, rfl, a, T.C_GapRightWall, dx, fs, v, rfl, ea, T.cl_GapRightWall, T.na_columns_GapRightWall, l, q⟩
theorem ok_GapRightWall_gap (T : Txt K mg) : FnOk P w K mg base CX0 1 T.wg_GapRightWall T.dgap_GapRightWall ["self"] (getSp T.C_GapRightWall "_gap") := by
  refine T.Fgap_GapRightWall.ok sc_GapRightWall_gap (fun vs H Q E h => ?_) (fun cdv A outer s H vs Q E hr h => ?_)
  · obtain ⟨a, dx, fs, v, rfl, _⟩ := h; rfl
  · obtain ⟨a, dx, fs, v, rfl, ea, l, q⟩ := h
    refine ⟨_, pss_one (ps_ret (pe_fld (pv 0) (by rfl))), ?_⟩
    exact ⟨.ref a, rfl, a, T.C_GapRightWall, dx, fs, v, rfl, ea, T.cl_GapRightWall, T.na_gap_GapRightWall, l, q⟩
/-- what a wall holds once it is made -/
def iniF (n : Int) (r : Bool) (g : Int) (l1 l2 : Addr) : List (Str × V) := [("_columns", .int n), ("_right", .bl r), ("_gap", .int g), ("_cards", .ref l1), ("_calls", .ref l2)]
structure Fl (K : PySem.W.Frag) (C : Addr) : Prop where
  cl : Cls K C
  f1 : NoAttr K C "_columns"
  f2 : NoAttr K C "_right"
  f3 : NoAttr K C "_gap"
  f4 : NoAttr K C "_cards"
  f5 : NoAttr K C "_calls"
/-- all but a stands -/
def ButA (a : Addr) (H H' : Hp) : Prop := ∀ c o, c ≠ a → H c = some o → H' c = some o
theorem ButA.upd (a : Addr) (H : Hp) (o : HO) : ButA a H (L2.upd H a o) := fun c u h e => by rw [upd_ne h]; exact e
theorem ButA.new {a p : Addr} {H : Hp} (o : HO) (n : H p = none) : ButA a H (L2.upd H p o) := fun c u _ e => by rw [upd_ne (ne_of_none e n)]; exact e
theorem ButA.trans {a : Addr} {H H1 H2 : Hp} (x : ButA a H H1) (y : ButA a H1 H2) : ButA a H H2 := fun c o h e => y c o h (x c o h e)
def spIW (K : PySem.W.Frag) : Sp := fun vs H Q _ => ∃ (a C dx : Addr) (n : Int), vs = [.ref a, .int n] ∧ H a = some (.ins C dx []) ∧ Fl K C ∧ 1 ≤ n ∧ n ≤ 30 ∧ ∀ H2, ButA a H H2 → (∀ l1 l2, H2 a = some (.ins C dx (iniF n false 0 l1 l2)) → Q .non H2)
theorem ok_Wall_init (T : Txt K mg) : FnOk P w K mg base CX0 3 T.fi_Wall T.di_Wall ["self", "columns"] (spIW K) := by
  refine T.Fi_Wall.ok sc_Wall_init (fun vs H Q E h => ?_) (fun cdv A outer s H vs Q E hr h => ?_)
  · obtain ⟨a, C, dx, n, rfl, _⟩ := h; rfl
  · obtain ⟨a, C, dx, n, rfl, ea, fl, n1, n2, q⟩ := h
    refine ⟨_, pss_cons (ps_expr (pe_call (ok_check_columns T) hr (by rfl) T.g_check_columns T.F_check_columns.kp T.b_check_columns .nil pass0 (pa_cons (pv 1) pa_nil)))
      (pss_cons (ps_fld (pv 0) (pv 1) (by rfl)) (pss_cons (ps_fld (pv 0) pe_bl (by rfl)) (pss_cons (ps_fld (pv 0) pe_int (by rfl)) (pss_cons (ps_fld (pv 0) (pe_lst pa_nil) (by rfl)) (pss_one (ps_fld (pv 0) (pe_lst pa_nil) (by rfl))))))), ?_⟩
    refine ⟨.int n, rfl, n, rfl, n1, n2, ?_⟩
    refine ⟨.int n, rfl, .ref a, rfl, a, C, dx, _, rfl, ea, fl.cl, fl.f1, (by simp [iniF]), ?_⟩
    have e1 : (L2.upd H a (.ins C dx (putF "_columns" (.int n) []))) a = some (.ins C dx [("_columns", .int n)]) := upd_same
    have b1 := ButA.upd a H (.ins C dx (putF "_columns" (.int n) []))
    generalize L2.upd H a _ = H1 at e1 b1 ⊢
    refine ⟨.ref a, rfl, a, C, dx, _, rfl, e1, fl.cl, fl.f2, (by simp [iniF]), ?_⟩
    have e2 : (L2.upd H1 a (.ins C dx (putF "_right" (.bl false) [("_columns", .int n)]))) a = some (.ins C dx [("_columns", .int n), ("_right", .bl false)]) := upd_same
    have b2 := b1.trans (ButA.upd a H1 (.ins C dx (putF "_right" (.bl false) [("_columns", .int n)])))
    generalize L2.upd H1 a _ = H2 at e2 b2 ⊢
    refine ⟨.ref a, rfl, a, C, dx, _, rfl, e2, fl.cl, fl.f3, (by simp [iniF]), ?_⟩
    have e3 : (L2.upd H2 a (.ins C dx (putF "_gap" (.int 0) [("_columns", .int n), ("_right", .bl false)]))) a = some (.ins C dx [("_columns", .int n), ("_right", .bl false), ("_gap", .int 0)]) := upd_same
    have b3 := b2.trans (ButA.upd a H2 (.ins C dx (putF "_gap" (.int 0) [("_columns", .int n), ("_right", .bl false)])))
    generalize L2.upd H2 a _ = H3 at e3 b3 ⊢
    refine ⟨Nat.zero_le _, fun l1 nl1 => ?_⟩
    have e3' : (L2.upd H3 l1 (.lst [])) a = some (.ins C dx [("_columns", .int n), ("_right", .bl false), ("_gap", .int 0)]) := (upd_ne (ne_of_none e3 nl1)).trans e3
    have b3' := b3.trans (ButA.new (a := a) (.lst []) nl1)
    generalize L2.upd H3 l1 _ = H4 at e3' b3' ⊢
    refine ⟨.ref a, rfl, a, C, dx, _, rfl, e3', fl.cl, fl.f4, (by simp [iniF]), ?_⟩
    have e4 : (L2.upd H4 a (.ins C dx (putF "_cards" (.ref l1) [("_columns", .int n), ("_right", .bl false), ("_gap", .int 0)]))) a = some (.ins C dx [("_columns", .int n), ("_right", .bl false), ("_gap", .int 0), ("_cards", .ref l1)]) := upd_same
    have b4 := b3'.trans (ButA.upd a H4 (.ins C dx (putF "_cards" (.ref l1) [("_columns", .int n), ("_right", .bl false), ("_gap", .int 0)])))
    generalize L2.upd H4 a _ = H5 at e4 b4 ⊢
    refine ⟨Nat.zero_le _, fun l2 nl2 => ?_⟩
    have e4' : (L2.upd H5 l2 (.lst [])) a = some (.ins C dx [("_columns", .int n), ("_right", .bl false), ("_gap", .int 0), ("_cards", .ref l1)]) := (upd_ne (ne_of_none e4 nl2)).trans e4
    have b4' := b4.trans (ButA.new (a := a) (.lst []) nl2)
    generalize L2.upd H5 l2 _ = H6 at e4' b4' ⊢
    refine ⟨.ref a, rfl, a, C, dx, _, rfl, e4', fl.cl, fl.f5, (by simp [iniF]), ?_⟩
    exact q _ (b4'.trans (ButA.upd a H6 _)) l1 l2 upd_same
def spIR (K : PySem.W.Frag) (T : Txt K mg) : Sp := fun vs H Q _ => ∃ (a C dx : Addr) (n : Int), vs = [.ref a, .int n] ∧ H a = some (.ins C dx []) ∧ Fl K C ∧ SupTo K C T.C_RightWall T.fi_Wall "__init__" ∧ 1 ≤ n ∧ n ≤ 30 ∧ ∀ H2, ButA a H H2 → (∀ l1 l2, H2 a = some (.ins C dx (iniF n true 0 l1 l2)) → Q .non H2)
theorem ok_RightWall_init (hP : FileOk P) (T : Txt K mg) : FnOk P w K mg base CX0 4 T.fi_RightWall T.di_RightWall ["self", "columns"] (spIR K T) := by
  refine SuFun.ok hP T.Su_RightWall rfl sc_RightWall_init (fun vs H Q E h => ?_) (fun cda cc A outer s H vs Q E hr S h => ?_)
  · obtain ⟨a, C, dx, n, rfl, _⟩ := h; rfl
  · obtain ⟨a, C, dx, n, rfl, ea, fl, to, n1, n2, q⟩ := h
    refine ⟨_, psats_cons (psat_expr (pea_super S rfl rfl rfl (by rfl) (by rfl) (by rfl) (i0 := 0) rfl T.z_super to (FnOk.raw (ok_Wall_init T) T.bi_Wall .nil) hr pass0 (pa_cons (pv 1) pa_nil)))
      (psats_of (pss_one (ps_fld (pv 0) pe_bl (by rfl)))), ?_⟩
    refine ⟨a, dx, [], rfl, ea, .int n, rfl, a, C, dx, n, rfl, ea, fl, n1, n2, fun H2 b2 l1 l2 e2 => ?_⟩
    refine ⟨.ref a, rfl, a, C, dx, _, rfl, e2, fl.cl, fl.f2, (by simp [iniF]), ?_⟩
    exact q _ (b2.trans (ButA.upd a H2 _)) l1 l2 upd_same
def spIG (K : PySem.W.Frag) (T : Txt K mg) : Sp := fun vs H Q _ => ∃ (a C dx : Addr) (n g : Int) (r : Bool), vs = [.ref a, .int n, .int g] ∧ H a = some (.ins C dx []) ∧ Fl K C ∧
  ((SupTo K C T.C_GapWall T.fi_Wall "__init__" ∧ r = false) ∨ (SupTo K C T.C_GapWall T.fi_RightWall "__init__" ∧ SupTo K C T.C_RightWall T.fi_Wall "__init__" ∧ r = true)) ∧ 1 ≤ n ∧ n ≤ 30 ∧ 0 ≤ g ∧ g ≤ big ∧ ∀ H2, ButA a H H2 → (∀ l1 l2, H2 a = some (.ins C dx (iniF n r g l1 l2)) → Q .non H2)
theorem ok_GapWall_init (hP : FileOk P) (T : Txt K mg) : FnOk P w K mg base CX0 5 T.fi_GapWall T.di_GapWall ["self", "columns", "gap"] (spIG K T) := by
  refine SuFun.ok hP T.Su_GapWall rfl sc_GapWall_init (fun vs H Q E h => ?_) (fun cda cc A outer s H vs Q E hr S h => ?_)
  · obtain ⟨a, C, dx, n, g, r, rfl, _⟩ := h; rfl
  · obtain ⟨a, C, dx, n, g, r, rfl, ea, fl, to, n1, n2, g1, g2, q⟩ := h
    rcases to with ⟨to, rfl⟩ | ⟨to, to2, rfl⟩
    · refine ⟨_, psats_cons (psat_expr (pea_super S rfl rfl rfl (by rfl) (by rfl) (by rfl) (i0 := 0) rfl T.z_super to (FnOk.raw (ok_Wall_init T) T.bi_Wall .nil) (hr.mono (by decide)) pass0 (pa_cons (pv 1) pa_nil)))
        (psats_of (pss_cons (ps_expr (pe_call (ok_check_number T) (hr.mono (by decide)) (by rfl) T.g_check_number T.F_check_number.kp T.b_check_number .nil pass0 (pa_cons (pv 2) (pa_cons (pe_glob (v := .int 1000000000000000000000000000000) (by rfl) T.c_MOST_NUMBER ⟨_, rfl⟩) pa_nil)))) (pss_one (ps_fld (pv 0) (pv 2) (by rfl))))), ?_⟩
      refine ⟨a, dx, [], rfl, ea, .int n, rfl, a, C, dx, n, rfl, ea, fl, n1, n2, fun H2 b2 l1 l2 e2 => ?_⟩
      refine ⟨.int g, rfl, g, big, rfl, g1, g2, .int g, rfl, .ref a, rfl, a, C, dx, _, rfl, e2, fl.cl, fl.f3, (by simp [iniF]), ?_⟩
      exact q _ (b2.trans (ButA.upd a H2 _)) l1 l2 upd_same
    · refine ⟨_, psats_cons (psat_expr (pea_super S rfl rfl rfl (by rfl) (by rfl) (by rfl) (i0 := 0) rfl T.z_super to (FnOk.raw (ok_RightWall_init hP T) T.bi_RightWall .nil) (hr.mono (by decide)) pass0 (pa_cons (pv 1) pa_nil)))
        (psats_of (pss_cons (ps_expr (pe_call (ok_check_number T) (hr.mono (by decide)) (by rfl) T.g_check_number T.F_check_number.kp T.b_check_number .nil pass0 (pa_cons (pv 2) (pa_cons (pe_glob (v := .int 1000000000000000000000000000000) (by rfl) T.c_MOST_NUMBER ⟨_, rfl⟩) pa_nil)))) (pss_one (ps_fld (pv 0) (pv 2) (by rfl))))), ?_⟩
      refine ⟨a, dx, [], rfl, ea, .int n, rfl, a, C, dx, n, rfl, ea, fl, to2, n1, n2, fun H2 b2 l1 l2 e2 => ?_⟩
      refine ⟨.int g, rfl, g, big, rfl, g1, g2, .int g, rfl, .ref a, rfl, a, C, dx, _, rfl, e2, fl.cl, fl.f3, (by simp [iniF]), ?_⟩
      exact q _ (b2.trans (ButA.upd a H2 _)) l1 l2 upd_same
def spIB (K : PySem.W.Frag) (T : Txt K mg) : Sp := fun vs H Q _ => ∃ (a dx : Addr) (n g : Int), vs = [.ref a, .int n, .int g] ∧ H a = some (.ins T.C_GapRightWall dx []) ∧ Fl K T.C_GapRightWall ∧ 1 ≤ n ∧ n ≤ 30 ∧ 0 ≤ g ∧ g ≤ big ∧ ∀ H2, ButA a H H2 → (∀ l1 l2, H2 a = some (.ins T.C_GapRightWall dx (iniF n true g l1 l2)) → Q .non H2)
theorem ok_GapRightWall_init (hP : FileOk P) (T : Txt K mg) : FnOk P w K mg base CX0 6 T.fi_GapRightWall T.di_GapRightWall ["self", "columns", "gap"] (spIB K T) := by
  refine SuFun.ok hP T.Su_GapRightWall rfl sc_GapRightWall_init (fun vs H Q E h => ?_) (fun cda cc A outer s H vs Q E hr S h => ?_)
  · obtain ⟨a, dx, n, g, rfl, _⟩ := h; rfl
  · obtain ⟨a, dx, n, g, rfl, ea, fl, n1, n2, g1, g2, q⟩ := h
    refine ⟨_, psats_cons (psat_expr (pea_super S rfl rfl rfl (by rfl) (by rfl) (by rfl) (i0 := 0) rfl T.z_super T.to_GapRightWall_GapRightWall (FnOk.raw (ok_GapWall_init hP T) T.bi_GapWall .nil) hr pass0 (pa_cons (pv 1) (pa_cons (pv 2) pa_nil))))
      (psats_of pss_nil), ?_⟩
    exact ⟨a, dx, [], rfl, ea, .int n, rfl, .int g, rfl, a, T.C_GapRightWall, dx, n, g, true, rfl, ea, fl, .inr ⟨T.to_GapRightWall_GapWall, T.to_GapRightWall_RightWall, rfl⟩, n1, n2, g1, g2, fun H2 b2 l1 l2 e2 => q H2 b2 l1 l2 e2⟩
end

section
variable {P : Program} {w : World} {K : PySem.W.Frag} {mg : Str → Option Value} {base : Heap}
theorem cut_toG {xs : List Int} {k : Nat} : cutV (xs.map V.int) none (some (k : Int)) = (xs.take k).map V.int := by
  rcases Nat.le_total k xs.length with h | h
  · exact cut_to h
  · unfold cutV
    rw [HT.sIx_nat, HT.sIx_none, List.length_map, Nat.min_eq_right h, ← List.map_drop, ← List.map_take, List.take_of_length_le h]
    show ((xs.drop 0).take (xs.length - 0)).map V.int = _
    rw [List.drop_zero, Nat.sub_zero, List.take_length]
end

section
variable {P : Program} {w : World} {K : PySem.W.Frag} {mg : Str → Option Value} {base : Heap}
theorem e33 : ((10 : Int) ^ (33 : Int).toNat + 61) = 1000000000000000000000000000000061 := by decide +kernel
theorem e38 : ((10 : Int) ^ (38 : Int).toNat + 133) = 100000000000000000000000000000000000133 := by decide +kernel
theorem fmod_lt {i j : Int} (h : 0 < j) : 0 ≤ i.fmod j ∧ i.fmod j < j := by
  rw [Int.fmod_eq_emod_of_nonneg i (by omega)]
  exact ⟨Int.emod_nonneg i (by omega), Int.emod_lt_of_pos i h⟩
/-- a source of at most n draws so far -/
def Src (H : Hp) (a : Addr) (n : Int) : Prop := ∃ p0 p1 p2 : Int, H a = some (.lst [.int p0, .int p1, .int p2]) ∧ 0 ≤ p0 ∧ p1.natAbs < 2 ^ 400 ∧ 0 ≤ p2 ∧ p2 ≤ n
theorem Src.mono {H : Hp} {a : Addr} {n m : Int} (h : Src H a n) (l : n ≤ m) : Src H a m := by
  obtain ⟨p0, p1, p2, e, h0, h1, h3, h4⟩ := h
  exact ⟨p0, p1, p2, e, h0, h1, h3, by omega⟩
theorem Src.same {H H' : Hp} {a : Addr} {n : Int} (h : Src H a n) (s : Same H H') : Src H' a n := by
  obtain ⟨p0, p1, p2, e, r⟩ := h
  exact ⟨p0, p1, p2, s _ _ e, r⟩
theorem Src.at {H : Hp} {a : Addr} {n : Int} (h : Src H a n) : ∃ o, H a = some o := by
  obtain ⟨_, _, _, e, _⟩ := h
  exact ⟨_, e⟩
theorem Src.ne {H : Hp} {a p : Addr} {n : Int} (h : Src H a n) (np : H p = none) : p ≠ a := fun z => by
  obtain ⟨o, eo⟩ := h.at
  rw [z] at np; rw [np] at eo; cases eo
theorem ebig4 : (2 : Nat) ^ 400 = 2582249878086908589655919172003011874329705792829223512830659356540647622016841194629645353280137831435903171972747493376 := by decide +kernel
def spSource : Sp := fun vs H Q _ => ∃ c k : Int, vs = [.int c, .int k] ∧ 0 ≤ k ∧ k ≤ 100 ∧ ∀ p H', H p = none → Same H H' → Src H' p 0 → Q (.ref p) H'
theorem cube_lt {x : Int} (h0 : 0 ≤ x) (h : x < 100000000000000000000000000000000000133) : (x ^ (3 : Int).toNat).natAbs < 2 ^ 390 := by
  have e : x ^ (3 : Int).toNat = x * x * x := by
    show x ^ 3 = _
    rw [Int.pow_succ, Int.pow_succ, Int.pow_succ, Int.pow_zero, Int.one_mul]
  rw [e, Int.natAbs_mul, Int.natAbs_mul]
  have hx : x.natAbs < 2 ^ 130 := by
    have e2 : (2 : Nat) ^ 130 = 1361129467683753853853498429727072845824 := by decide +kernel
    rw [e2]; omega
  have h1 : x.natAbs * x.natAbs < 2 ^ 130 * 2 ^ 130 := Nat.mul_lt_mul'' hx hx
  have h2 : x.natAbs * x.natAbs * x.natAbs < 2 ^ 130 * 2 ^ 130 * 2 ^ 130 := Nat.mul_lt_mul'' h1 hx
  have e3 : (2 : Nat) ^ 130 * 2 ^ 130 * 2 ^ 130 = 2 ^ 390 := by decide +kernel
  rw [e3] at h2
  exact h2
theorem ok_law_source (T : Txt K mg) : FnOk P w K mg base CX0 1 T.a_law_source T.d_law_source ["cell", "number"] spSource := by
  refine T.F_law_source.ok sc_law_source (fun vs H Q E h => ?_) (fun cdv A outer s H vs Q E hr h => ?_)
  · obtain ⟨c, k, rfl, _⟩ := h; rfl
  · obtain ⟨c, k, rfl, k0, k1, q⟩ := h
    refine ⟨_, (pss_one (ps_ret (pe_lst (pa_cons (pe_callB (call_max2 rfl) (by rfl) T.z_max (by decide +kernel) (pa_cons pe_int (pa_cons (pe_op op_sub (pv 0) (pe_op op_powW pe_int pe_int)) pa_nil))) (pa_cons (pe_op op_add (pe_op op_add (pe_op op_powW (pe_op op_modN (pv 0) (pe_op op_add (pe_op op_powW pe_int pe_int) pe_int)) pe_int) (pe_op op_mulW pe_int (pv 1))) pe_int) (pa_cons pe_int pa_nil)))))), ?_⟩
    have hm := fmod_lt (i := c) (j := 10 ^ (38 : Int).toNat + 133) (by rw [e38]; decide)
    refine ⟨.int c, rfl, 10, 18, rfl, rfl, ⟨by decide, by decide⟩, c, _, rfl, rfl, _, _, rfl, .int c, rfl, 10, 38, rfl, rfl, ⟨by decide, by decide⟩, _, 133, rfl, rfl, c, _, rfl, rfl, (by show _ ≠ (0 : Int); rw [e38]; decide), _, 3, rfl, rfl, ?_, .int k, rfl, 1299827, k, rfl, rfl, ?_, _, _, rfl, rfl, _, 331662479035539985, rfl, rfl, (by show 3 ≤ sizeLine; decide), fun p np => ?_⟩
    · refine ⟨by decide, ?_⟩
      rw [e38] at hm ⊢
      have := bits_le (x := c.fmod 100000000000000000000000000000000000133) (b := 130) (by
        have e2 : (2 : Nat) ^ 130 = 1361129467683753853853498429727072845824 := by decide +kernel
        rw [e2]; omega) (by decide)
      omega
    · exact wide_mul (a := 60) (b := 60) (by decide) (by omega) (by decide) (by decide) (by decide)
    · rw [e38] at hm
      have hc := cube_lt hm.1 hm.2
      refine q p _ np (same_new _ np) ⟨_, _, 0, upd_same, ?_, ?_, by decide, by decide⟩
      · show 0 ≤ (if (c - 10 ^ (18 : Int).toNat) > 0 then (c - 10 ^ (18 : Int).toNat) else (0 : Int))
        split <;> omega
      · rw [e38]
        have e4 : (2 : Nat) ^ 390 = 2521728396569246669585858566409191283525103313309788586748690777871726193375821479130513040312634601011624191379636224 := by decide +kernel
        rw [e4] at hc
        rw [ebig4]
        omega
def spDraw : Sp := fun vs H Q _ => ∃ (a : Addr) (m n : Int), vs = [.ref a, .int m] ∧ Src H a n ∧ n ≤ 1000000 ∧ 1 ≤ m ∧ m ≤ 10000000000000000000000000000000 ∧ ∀ r H', But a H H' → Src H' a (n + 1) → 0 ≤ r → r < m → Q (.int r) H'
theorem ok_law_draw (T : Txt K mg) : FnOk P w K mg base CX0 1 T.a_law_draw T.d_law_draw ["source", "count"] spDraw := by
  refine T.F_law_draw.ok sc_law_draw (fun vs H Q E h => ?_) (fun cdv A outer s H vs Q E hr h => ?_)
  · obtain ⟨a, m, n, rfl, _⟩ := h; rfl
  · obtain ⟨a, m, n, rfl, ⟨p0, p1, p2, e, h0, h1, h3, h4⟩, hn, m1, m2, q⟩ := h
    refine ⟨_, (pss_cons (ps_if (pt_cmpR op_gt (pe_ix ix_list (pv 0) pe_int (fun _ _ => rfl)) pe_int (nomark _))
  (pss_cons (ps_set (i := 2) sc_law_draw.nd rfl (.inl rfl) (pe_op op_modN (pe_ix ix_list (pv 0) pe_int (fun _ _ => rfl)) (pv 1)))
  (pss_cons (ps_asg (pe_op op_fdivW (pe_ix ix_list (pv 0) pe_int (fun _ _ => rfl)) (pv 1)) (pg_sub (pv 0) pe_int set_list))
  (pss_one (ps_ret (pv 2)))))
  pss_nil)
  (pss_cons (ps_asg (pe_op op_add (pe_ix ix_list (pv 0) pe_int (fun _ _ => rfl)) pe_int) (pg_sub (pv 0) pe_int set_list))
  (pss_cons (ps_asg (pe_op op_modN (pe_op op_add (pe_op op_add (pe_op op_powW (pe_ix ix_list (pv 0) pe_int (fun _ _ => rfl)) pe_int) (pe_op op_mulW pe_int (pe_ix ix_list (pv 0) pe_int (fun _ _ => rfl)))) pe_int) (pe_op op_add (pe_op op_powW pe_int pe_int) pe_int)) (pg_sub (pv 0) pe_int set_list))
  (pss_one (ps_ret (pe_op op_modN (pe_op op_fdivW (pe_ix ix_list (pv 0) pe_int (fun _ _ => rfl)) (pe_op op_powW pe_int pe_int)) (pv 1))))))), ?_⟩
    refine ⟨.ref a, rfl, a, _, 0, .int p0, rfl, rfl, SqL.of e, rfl, p0, 0, rfl, rfl, _, rfl, ite2 (fun hc => ?_) (fun hc => ?_)⟩
    · have hm := fmod_lt (i := p0) (j := m) (by omega)
      refine ⟨.ref a, rfl, a, _, 0, .int p0, rfl, rfl, SqL.of e, rfl, .int m, rfl, p0, m, rfl, rfl, (by show m ≠ 0; omega), ?_⟩
      refine ⟨.ref a, rfl, a, _, 0, .int p0, rfl, rfl, SqL.of e, rfl, .int m, rfl, p0, m, rfl, rfl, fdivW (by omega) (by omega), .ref a, rfl, a, _, 0, 0, rfl, rfl, e, rfl, ?_⟩
      exact ⟨_, rfl, q _ _ (But.upd _ _ _) ⟨p0 / m, p1, p2, upd_same, Int.ediv_nonneg h0 (by omega), h1, h3, by omega⟩ hm.1 hm.2⟩
    · refine ⟨.ref a, rfl, a, _, 2, .int p2, rfl, rfl, SqL.of e, rfl, p2, 1, rfl, rfl, .ref a, rfl, a, _, 2, 2, rfl, rfl, e, rfl, ?_⟩
      have e1 : (L2.upd H a (.lst [.int p0, .int p1, .int (p2 + 1)])) a = some (.lst [.int p0, .int p1, .int (p2 + 1)]) := upd_same
      refine ⟨.ref a, rfl, a, _, 1, .int p1, rfl, rfl, SqL.of e1, rfl, p1, 3, rfl, rfl, ?_, .ref a, rfl, a, _, 2, .int (p2 + 1), rfl, rfl, SqL.of e1, rfl, 791267863, p2 + 1, rfl, rfl, ?_, _, _, rfl, rfl, _, 5, rfl, rfl, 10, 33, rfl, rfl, ⟨by decide, by decide⟩, _, 61, rfl, rfl, _, _, rfl, rfl, (by show _ ≠ (0 : Int); rw [e33]; decide), .ref a, rfl, a, _, 1, 1, rfl, rfl, e1, rfl, ?_⟩
      · refine ⟨by decide, ?_⟩
        have := bits_le (x := p1) (b := 400) h1 (by decide)
        omega
      · exact wide_mul (a := 60) (b := 60) (by decide) (by omega) (by decide) (by decide) (by decide)
      · have hp := fmod_lt (i := p1 ^ (3 : Int).toNat + 791267863 * (p2 + 1) + 5) (j := 10 ^ (33 : Int).toNat + 61) (by rw [e33]; decide)
        have e2 : (L2.upd (L2.upd H a (.lst [.int p0, .int p1, .int (p2 + 1)])) a (.lst [.int p0, .int ((p1 ^ (3 : Int).toNat + 791267863 * (p2 + 1) + 5).fmod (10 ^ (33 : Int).toNat + 61)), .int (p2 + 1)])) a = some (.lst [.int p0, .int ((p1 ^ (3 : Int).toNat + 791267863 * (p2 + 1) + 5).fmod (10 ^ (33 : Int).toNat + 61)), .int (p2 + 1)]) := upd_same
        have hm := fmod_lt (i := ((p1 ^ (3 : Int).toNat + 791267863 * (p2 + 1) + 5).fmod (10 ^ (33 : Int).toNat + 61)) / 10 ^ (8 : Int).toNat) (j := m) (by omega)
        refine ⟨.ref a, rfl, a, _, 1, .int ((p1 ^ (3 : Int).toNat + 791267863 * (p2 + 1) + 5).fmod (10 ^ (33 : Int).toNat + 61)), rfl, rfl, SqL.of e2, rfl, 10, 8, rfl, rfl, ⟨by decide, by decide⟩, ((p1 ^ (3 : Int).toNat + 791267863 * (p2 + 1) + 5).fmod (10 ^ (33 : Int).toNat + 61)), _, rfl, rfl, fdivW (by decide) (by decide), .int m, rfl, _, m, rfl, rfl, (by show m ≠ 0; omega), ?_⟩
        refine q _ _ ((But.upd _ _ _).trans (But.upd _ _ _)) ⟨p0, _, p2 + 1, e2, h0, ?_, by omega, by omega⟩ hm.1 hm.2
        rw [e33] at hp ⊢
        rw [ebig4]; omega
def spCells (K : PySem.W.Frag) : Sp := fun vs H Q _ => ∃ (a : Addr) (ns : List Int) (m : Nat), vs = [.ref a, .int (m : Int)] ∧ Scr K H a (ns.map V.int) ∧ m ≤ 20 ∧ ∀ (C : Addr) (H' : Hp) (cs : List Int), Same H H' → H' C = some (.lst (cs.map V.int)) → cs.length ≤ m + 1 → Q (.ref C) H'
theorem ok_law_cells (T : Txt K mg) : FnOk P w K mg base CX0 1 T.a_law_cells T.d_law_cells ["script", "count"] (spCells K) := by
  refine T.F_law_cells.ok sc_law_cells (fun vs H Q E h => ?_) (fun cdv A outer s H vs Q E hr h => ?_)
  · obtain ⟨a, ns, m, rfl, _⟩ := h; rfl
  · obtain ⟨a, ns, m, rfl, hS, hm, q⟩ := h
    refine ⟨_, (pss_one (ps_ret (pe_op op_cat (pe_slice sl_list (pv 0) po_none (po_some (pv 1))) (pe_op op_rep (pe_lst (pa_cons pe_int pa_nil)) (pe_callTy call_int1 (by rfl) T.z_int (by decide +kernel) (pa_cons (pe_cmpR (op_eqD hr.units) (pv 0) (pe_lst pa_nil) (nomark _)) pa_nil)))))), ?_⟩
    refine ⟨.ref a, rfl, .int (m : Int), rfl, (m : Int), rfl, a, _, rfl, hS.sq, fun p1 n1 => ?_⟩
    rw [cut_toG]
    have s1 := same_new (H := H) (p := p1) (.lst ((ns.take m).map V.int)) n1
    have e1 : (upd H p1 (.lst ((ns.take m).map V.int))) p1 = some (.lst ((ns.take m).map V.int)) := upd_same
    generalize upd H p1 _ = H1 at s1 e1 ⊢
    refine ⟨(by show 1 ≤ sizeLine; decide), fun o no => ⟨.ref a, rfl, Nat.zero_le _, fun e ne => ?_⟩⟩
    have t1 := same_new (H := H1) (p := o) (.lst [.int 0]) no
    have t2 := same_new (p := e) (.lst []) ne
    have eo : (upd (upd H1 o (.lst [.int 0])) e (.lst [])) o = some (.lst [.int 0]) := t2 _ _ upd_same
    refine ⟨_, _, .lst ((hS.same (s1.trans (t1.trans t2))).sq) (dpInts ns), .lst (SqL.of upd_same) .nil, shapedInts ns, rfl, ?_⟩
    generalize PyData.eqv _ _ = tt
    have e2 := (t1.trans t2) _ _ e1
    have s2 := s1.trans (t1.trans t2)
    generalize upd (upd H1 o (.lst [.int 0])) e (.lst []) = H2 at eo e2 s2 ⊢
    refine .inr ⟨tt, rfl, ?_⟩
    obtain ⟨z, ez, hz⟩ : ∃ z : Nat, (if tt = true then (1 : Int) else 0) = ((z : Nat) : Int) ∧ z ≤ 1 := by
      cases tt
      · exact ⟨0, rfl, by decide⟩
      · exact ⟨1, rfl, by decide⟩
    rw [ez]
    refine ⟨o, ((z : Nat) : Int), _, rfl, rfl, eo, by omega, by omega, (by show 1 * _ ≤ sizeLine; rw [Int.toNat_natCast]; exact small_le (m := 1000) (by omega) (by decide)), fun u nu => ?_⟩
    have eR : (List.replicate ((z : Nat) : Int).toNat [V.int 0]).flatten = (List.replicate z (0 : Int)).map V.int := by
      rw [Int.toNat_natCast]
      have : z = 0 ∨ z = 1 := by omega
      rcases this with rfl | rfl <;> rfl
    rw [eR]
    have t3 := same_new (H := H2) (p := u) (.lst ((List.replicate z (0 : Int)).map V.int)) nu
    have lc : (ns.take m).length ≤ m := by rw [List.length_take]; omega
    refine ⟨p1, u, _, _, rfl, rfl, t3 _ _ e2, upd_same, ?_, fun C nC => ?_⟩
    · rw [List.length_map, List.length_map, List.length_replicate]; exact small_le (m := 1000) (by omega) (by decide)
    rw [← List.map_append]
    exact q C _ (ns.take m ++ List.replicate z (0 : Int)) (s2.trans (t3.trans (same_new _ nC))) upd_same (by rw [List.length_append, List.length_replicate]; omega)
end

section
variable {P : Program} {w : World} {K : PySem.W.Frag} {mg : Str → Option Value} {base : Heap}
theorem eb30 : (10 : Int) ^ (30 : Int).toNat = big := by decide +kernel
theorem kbs_Wall_is_height (T : Txt K mg) : KBinds K T.dis_height_Wall ["value"] ["value"] (fun us ws => match us, ws with | [], [w0] => [w0] | _, _ => []) (fun us ws => match us, ws with | [], [w0] => [w0] | _, _ => []) := by
  obtain ⟨oc, od, kV, doc, pm, an, cdv, ct, osl, e, lk, hcd⟩ := T.Fis_height_Wall.ex
  refine ⟨fun s us ws X hl => ?_, fun {vs us zs ws} r rz => ?_⟩
  · rcases us with _ | ⟨u0, us⟩ <;> rcases ws with _ | ⟨w0, _ | ⟨w1, ws⟩⟩ <;> first | exact absurd (show (0 : Nat) = 1 from hl) (by decide) | (rw [e]; exact .of_eq rfl)
  · cases r with
    | cons _ _ => exact .nil
    | nil =>
      cases rz with
      | nil => exact .nil
      | cons b1 rzx =>
        cases rzx with
        | cons _ _ => exact .nil
        | nil =>
          exact (.cons b1 .nil)
/-- any value, as it stands in every later heap -/
def Avs (K : PySem.W.Frag) (H : Hp) (x : V) (d : Option Int) : Prop := ∀ H', Same H H' → Av K H' x d
theorem Avs.same {H H' : Hp} {x : V} {d : Option Int} (h : Avs K H x d) (s : Same H H') : Avs K H' x d := fun H2 s2 => h H2 (s.trans s2)
theorem Avs.int (H : Hp) (n : Int) : Avs K H (.int n) (some n) := fun _ _ => .inl ⟨n, rfl, rfl⟩
def spRight (K : PySem.W.Frag) : Sp := fun vs H Q _ => ∃ (x : V) (d : Option Int), vs = [x] ∧ Avs K H x d ∧ ∀ H', Same H H' → Q (.bl true) H'
theorem nice5 (b : Bool) : Nice (.list [.bool b, .bool b, .bool b, .bool b, .bool b]) := by
  cases b <;> exact ⟨by decide, by decide, by decide, by decide, by decide⟩
theorem ok_law_right (T : Txt K mg) : FnG P w K mg base CX0 5 T.a_law_right T.d_law_right ["thing"] (spRight K) := by
  refine funG0 T.F_law_right sc_law_right (fun vs H Q E h => ?_) (fun cdv A outer s H vs Q E hgu hr h => ?_)
  · obtain ⟨x, d, rfl, _⟩ := h; rfl
  · obtain ⟨x, d, rfl, hv, q⟩ := h
    refine ⟨_, (pss_cons (ps_set (i := 1) sc_law_right.nd rfl (.inl rfl) (pe_and (pe_callB call_isi (by rfl) T.z_isinstance (by decide +kernel) (pa_cons (pv 0) (pa_cons (pe_bltn (v := .ty "int") (by rfl) T.z_int (by decide +kernel) rfl) pa_nil))) (pe_and (pe_not (pe_callB call_isi (by rfl) T.z_isinstance (by decide +kernel) (pa_cons (pv 0) (pa_cons (pe_bltn (v := .ty "bool") (by rfl) T.z_bool (by decide +kernel) rfl) pa_nil)))) (pe_and (pe_cmpR op_gt (pv 0) pe_int (nomark _)) (pe_one (pe_cmpR op_le (pv 0) (pe_op op_powW pe_int pe_int) (nomark _)))))))
  (pss_cons (ps_set (i := 2) sc_law_right.nd rfl (.inl rfl) (pe_lst (pa_cons (pe_smeth (pe_glob (v := .ref T.C_Wall) (by rfl) T.gc_Wall rfl) T.rd_Wall T.sm_Wall_is_height (ok_Wall_is_height T) (hr.mono (by decide)) T.bis_height_Wall .nil pass0 (pa_cons (pv 0) pa_nil)) (pa_cons (pe_smeth (pe_glob (v := .ref T.C_RightWall) (by rfl) T.gc_RightWall rfl) T.rd_RightWall T.sm_RightWall_is_height (ok_RightWall_is_height T) (hr.mono (by decide)) T.bis_height_RightWall .nil pass0 (pa_cons (pv 0) pa_nil)) (pa_cons (pe_smeth (pe_glob (v := .ref T.C_GapWall) (by rfl) T.gc_GapWall rfl) T.rd_GapWall T.sm_GapWall_is_height (ok_GapWall_is_height T) (hr.mono (by decide)) T.bis_height_GapWall .nil pass0 (pa_cons (pv 0) pa_nil)) pa_nil)))))
  (pss_cons (ps_set (i := 2) sc_law_right.nd rfl (.inl rfl) (pe_op op_cat (pv 2) (pe_lst (pa_cons (pe_smeth (pe_glob (v := .ref T.C_GapRightWall) (by rfl) T.gc_GapRightWall rfl) T.rd_GapRightWall T.sm_GapRightWall_is_height (ok_GapRightWall_is_height T) (hr.mono (by decide)) T.bis_height_GapRightWall .nil pass0 (pa_cons (pv 0) pa_nil)) (pa_cons (pe_smethK (pe_glob (v := .ref T.C_Wall) (by rfl) T.gc_Wall rfl) T.rd_Wall T.sm_Wall_is_height (ok_Wall_is_height T) (hr.mono (by decide)) (kbs_Wall_is_height T) pass0 (pk_cons (pv 0) pk_nil)) pa_nil)))))
  (pss_one (ps_ret (pe_cmpR op_eq (pe_callB (call_repr_X hgu hr.units) (by rfl) T.z_repr (by decide +kernel) (pa_cons (pv 2) pa_nil)) (pe_callB (call_repr_X hgu hr.units) (by rfl) T.z_repr (by decide +kernel) (pa_cons (pe_op op_rep (pe_lst (pa_cons (pv 1) pa_nil)) pe_int) pa_nil)) (nomark _))))))), ?_⟩
    rcases hv H (Same.refl H) with ⟨n, rfl, rfl⟩ | ⟨rfl, T', hT, ty⟩
    · refine ⟨.int n, rfl, .int n, .ty "int", .type "int", .type "int", true, rfl, .ty _, .base (.int n), kit_ty (by decide +kernel), true, rfl, iteT ?_⟩
      refine ⟨.int n, rfl, .int n, .ty "bool", .type "int", .type "bool", false, rfl, .ty _, .base (.int n), kit_ty (by decide +kernel), false, rfl, true, rfl, iteT ?_⟩
      refine ⟨.int n, rfl, n, 0, rfl, rfl, decide (0 < n), rfl, ?_⟩
      by_cases h0 : 0 < n
      · rw [decide_eq_true h0]
        refine iteT ⟨.int n, rfl, 10, 30, rfl, rfl, ⟨by decide, by decide⟩, n, _, rfl, rfl, ?_⟩
        have hB : okI 1 big (some n) = decide (n ≤ big) := by
          show decide (1 ≤ n ∧ n ≤ big) = _
          exact decide_eq_decide.mpr ⟨fun z => z.2, fun z => ⟨h0, z⟩⟩
        have hE : V.bl (decide (n ≤ 10 ^ (30 : Int).toNat)) = V.bl (decide (n ≤ big)) := by rw [eb30]
        generalize decide (n ≤ big) = B0 at hB hE
        refine ⟨rfl, (.int n), rfl, (.int n), _, rfl, hv _ (Same.refl H), rfl, (.int n), rfl, (.int n), _, rfl, hv _ (Same.refl H), rfl, (.int n), rfl, (.int n), _, rfl, hv _ (Same.refl H), (by show 3 ≤ sizeLine; decide), fun D nD => ?_⟩
        rw [hB]
        have s1 := same_new (H := H) (p := D) (.lst [.bl B0, .bl B0, .bl B0]) nD
        have eD : (L2.upd H D (.lst [.bl B0, .bl B0, .bl B0])) D = some (.lst [.bl B0, .bl B0, .bl B0]) := upd_same
        generalize L2.upd H D _ = H1 at s1 eD ⊢
        refine ⟨.ref D, rfl, rfl, (.int n), rfl, (.int n), _, rfl, hv _ s1, rfl, (.int n), rfl, (.int n), _, rfl, hv _ s1, (by show 2 ≤ sizeLine; decide), fun D2 nD2 => ?_⟩
        rw [hB]
        have s2 := s1.trans (same_new (H := H1) (p := D2) (.lst [.bl B0, .bl B0]) nD2)
        have eD2 : (L2.upd H1 D2 (.lst [.bl B0, .bl B0])) D2 = some (.lst [.bl B0, .bl B0]) := upd_same
        have eD' := same_new (H := H1) (p := D2) (.lst [.bl B0, .bl B0]) nD2 _ _ eD
        generalize L2.upd H1 D2 _ = H2 at s2 eD2 eD' ⊢
        refine ⟨D, D2, _, _, rfl, rfl, eD', eD2, (by show 5 ≤ sizeLine; decide), fun R nR => ?_⟩
        have s3 := s2.trans (same_new (H := H2) (p := R) (.lst ([.bl B0, .bl B0, .bl B0] ++ [.bl B0, .bl B0])) nR)
        have eR : (L2.upd H2 R (.lst ([.bl B0, .bl B0, .bl B0] ++ [.bl B0, .bl B0]))) R = some (.lst [.bl B0, .bl B0, .bl B0, .bl B0, .bl B0]) := upd_same
        generalize L2.upd H2 R _ = H3 at s3 eR ⊢
        have dp5 : ∀ {H : Hp} {p : Addr}, H p = some (.lst [.bl B0, .bl B0, .bl B0, .bl B0, .bl B0]) → Dp K H (.ref p) (.list [.bool B0, .bool B0, .bool B0, .bool B0, .bool B0]) := fun h => .lst (SqL.of h) (.cons (.bl _) (.cons (.bl _) (.cons (.bl _) (.cons (.bl _) (.cons (.bl _) .nil)))))
        refine ⟨.ref R, rfl, .inr (.inr ⟨R, _, rfl, dp5 eR, .inl (nice5 B0), ?_⟩)⟩
        refine ⟨(.bl (decide (n ≤ 10 ^ (30 : Int).toNat))), rfl, (by show 1 ≤ sizeLine; decide), fun o no => ⟨o, 5, _, rfl, rfl, upd_same, by decide, by decide, (by show 1 * 5 ≤ sizeLine; decide), fun u nu => ?_⟩⟩
        have s4 := s3.trans (same_new (H := H3) (p := o) (.lst [(.bl (decide (n ≤ 10 ^ (30 : Int).toNat)))]) no)
        have s5 := s4.trans (same_new (p := u) (.lst [(.bl (decide (n ≤ 10 ^ (30 : Int).toNat))), (.bl (decide (n ≤ 10 ^ (30 : Int).toNat))), (.bl (decide (n ≤ 10 ^ (30 : Int).toNat))), (.bl (decide (n ≤ 10 ^ (30 : Int).toNat))), (.bl (decide (n ≤ 10 ^ (30 : Int).toNat)))]) nu)
        have eu : (L2.upd (L2.upd H3 o (.lst [(.bl (decide (n ≤ 10 ^ (30 : Int).toNat)))])) u (.lst [(.bl (decide (n ≤ 10 ^ (30 : Int).toNat))), (.bl (decide (n ≤ 10 ^ (30 : Int).toNat))), (.bl (decide (n ≤ 10 ^ (30 : Int).toNat))), (.bl (decide (n ≤ 10 ^ (30 : Int).toNat))), (.bl (decide (n ≤ 10 ^ (30 : Int).toNat)))])) u = some (.lst [.bl B0, .bl B0, .bl B0, .bl B0, .bl B0]) := by rw [upd_same, hE]
        refine .inr (.inr ⟨u, _, rfl, dp5 eu, .inl (nice5 B0), ?_⟩)
        have fin : ∀ t : V, Q (V.bl (decide (t = t))) (L2.upd (L2.upd H3 o (.lst [(.bl (decide (n ≤ 10 ^ (30 : Int).toNat)))])) u (.lst [(.bl (decide (n ≤ 10 ^ (30 : Int).toNat))), (.bl (decide (n ≤ 10 ^ (30 : Int).toNat))), (.bl (decide (n ≤ 10 ^ (30 : Int).toNat))), (.bl (decide (n ≤ 10 ^ (30 : Int).toNat))), (.bl (decide (n ≤ 10 ^ (30 : Int).toNat)))])) := fun t => by rw [decide_eq_true rfl]; exact q _ s5
        exact ⟨rfl, fin _⟩
      · rw [decide_eq_false h0]
        refine iteF ?_
        have hB : okI 1 big (some n) = false := decide_eq_false fun z => h0 (by omega)
        have hE : V.bl false = V.bl false := rfl
        refine ⟨rfl, (.int n), rfl, (.int n), _, rfl, hv _ (Same.refl H), rfl, (.int n), rfl, (.int n), _, rfl, hv _ (Same.refl H), rfl, (.int n), rfl, (.int n), _, rfl, hv _ (Same.refl H), (by show 3 ≤ sizeLine; decide), fun D nD => ?_⟩
        rw [hB]
        have s1 := same_new (H := H) (p := D) (.lst [.bl false, .bl false, .bl false]) nD
        have eD : (L2.upd H D (.lst [.bl false, .bl false, .bl false])) D = some (.lst [.bl false, .bl false, .bl false]) := upd_same
        generalize L2.upd H D _ = H1 at s1 eD ⊢
        refine ⟨.ref D, rfl, rfl, (.int n), rfl, (.int n), _, rfl, hv _ s1, rfl, (.int n), rfl, (.int n), _, rfl, hv _ s1, (by show 2 ≤ sizeLine; decide), fun D2 nD2 => ?_⟩
        rw [hB]
        have s2 := s1.trans (same_new (H := H1) (p := D2) (.lst [.bl false, .bl false]) nD2)
        have eD2 : (L2.upd H1 D2 (.lst [.bl false, .bl false])) D2 = some (.lst [.bl false, .bl false]) := upd_same
        have eD' := same_new (H := H1) (p := D2) (.lst [.bl false, .bl false]) nD2 _ _ eD
        generalize L2.upd H1 D2 _ = H2 at s2 eD2 eD' ⊢
        refine ⟨D, D2, _, _, rfl, rfl, eD', eD2, (by show 5 ≤ sizeLine; decide), fun R nR => ?_⟩
        have s3 := s2.trans (same_new (H := H2) (p := R) (.lst ([.bl false, .bl false, .bl false] ++ [.bl false, .bl false])) nR)
        have eR : (L2.upd H2 R (.lst ([.bl false, .bl false, .bl false] ++ [.bl false, .bl false]))) R = some (.lst [.bl false, .bl false, .bl false, .bl false, .bl false]) := upd_same
        generalize L2.upd H2 R _ = H3 at s3 eR ⊢
        have dp5 : ∀ {H : Hp} {p : Addr}, H p = some (.lst [.bl false, .bl false, .bl false, .bl false, .bl false]) → Dp K H (.ref p) (.list [.bool false, .bool false, .bool false, .bool false, .bool false]) := fun h => .lst (SqL.of h) (.cons (.bl _) (.cons (.bl _) (.cons (.bl _) (.cons (.bl _) (.cons (.bl _) .nil)))))
        refine ⟨.ref R, rfl, .inr (.inr ⟨R, _, rfl, dp5 eR, .inl (nice5 false), ?_⟩)⟩
        refine ⟨(.bl false), rfl, (by show 1 ≤ sizeLine; decide), fun o no => ⟨o, 5, _, rfl, rfl, upd_same, by decide, by decide, (by show 1 * 5 ≤ sizeLine; decide), fun u nu => ?_⟩⟩
        have s4 := s3.trans (same_new (H := H3) (p := o) (.lst [(.bl false)]) no)
        have s5 := s4.trans (same_new (p := u) (.lst [(.bl false), (.bl false), (.bl false), (.bl false), (.bl false)]) nu)
        have eu : (L2.upd (L2.upd H3 o (.lst [(.bl false)])) u (.lst [(.bl false), (.bl false), (.bl false), (.bl false), (.bl false)])) u = some (.lst [.bl false, .bl false, .bl false, .bl false, .bl false]) := by rw [upd_same, hE]
        refine .inr (.inr ⟨u, _, rfl, dp5 eu, .inl (nice5 false), ?_⟩)
        have fin : ∀ t : V, Q (V.bl (decide (t = t))) (L2.upd (L2.upd H3 o (.lst [(.bl false)])) u (.lst [(.bl false), (.bl false), (.bl false), (.bl false), (.bl false)])) := fun t => by rw [decide_eq_true rfl]; exact q _ s5
        exact ⟨rfl, fin _⟩
    · have hB : okI 1 big none = false := rfl
      have hE : V.bl false = V.bl false := rfl
      refine ⟨x, rfl, x, .ty "int", .type T', .type "int", _, rfl, .ty _, .base ty, kit_ty (kI T' hT), _, rfl, ?_⟩
      by_cases hb : T' = "bool"
      · rw [decide_eq_true hb]
        refine iteT ⟨x, rfl, x, .ty "bool", .type T', .type "bool", _, rfl, .ty _, .base ty, kit_ty (kB T' hT), _, rfl, _, rfl, ?_⟩
        rw [decide_eq_true hb]
        refine iteF ?_
        refine ⟨rfl, x, rfl, x, _, rfl, hv _ (Same.refl H), rfl, x, rfl, x, _, rfl, hv _ (Same.refl H), rfl, x, rfl, x, _, rfl, hv _ (Same.refl H), (by show 3 ≤ sizeLine; decide), fun D nD => ?_⟩
        rw [hB]
        have s1 := same_new (H := H) (p := D) (.lst [.bl false, .bl false, .bl false]) nD
        have eD : (L2.upd H D (.lst [.bl false, .bl false, .bl false])) D = some (.lst [.bl false, .bl false, .bl false]) := upd_same
        generalize L2.upd H D _ = H1 at s1 eD ⊢
        refine ⟨.ref D, rfl, rfl, x, rfl, x, _, rfl, hv _ s1, rfl, x, rfl, x, _, rfl, hv _ s1, (by show 2 ≤ sizeLine; decide), fun D2 nD2 => ?_⟩
        rw [hB]
        have s2 := s1.trans (same_new (H := H1) (p := D2) (.lst [.bl false, .bl false]) nD2)
        have eD2 : (L2.upd H1 D2 (.lst [.bl false, .bl false])) D2 = some (.lst [.bl false, .bl false]) := upd_same
        have eD' := same_new (H := H1) (p := D2) (.lst [.bl false, .bl false]) nD2 _ _ eD
        generalize L2.upd H1 D2 _ = H2 at s2 eD2 eD' ⊢
        refine ⟨D, D2, _, _, rfl, rfl, eD', eD2, (by show 5 ≤ sizeLine; decide), fun R nR => ?_⟩
        have s3 := s2.trans (same_new (H := H2) (p := R) (.lst ([.bl false, .bl false, .bl false] ++ [.bl false, .bl false])) nR)
        have eR : (L2.upd H2 R (.lst ([.bl false, .bl false, .bl false] ++ [.bl false, .bl false]))) R = some (.lst [.bl false, .bl false, .bl false, .bl false, .bl false]) := upd_same
        generalize L2.upd H2 R _ = H3 at s3 eR ⊢
        have dp5 : ∀ {H : Hp} {p : Addr}, H p = some (.lst [.bl false, .bl false, .bl false, .bl false, .bl false]) → Dp K H (.ref p) (.list [.bool false, .bool false, .bool false, .bool false, .bool false]) := fun h => .lst (SqL.of h) (.cons (.bl _) (.cons (.bl _) (.cons (.bl _) (.cons (.bl _) (.cons (.bl _) .nil)))))
        refine ⟨.ref R, rfl, .inr (.inr ⟨R, _, rfl, dp5 eR, .inl (nice5 false), ?_⟩)⟩
        refine ⟨(.bl false), rfl, (by show 1 ≤ sizeLine; decide), fun o no => ⟨o, 5, _, rfl, rfl, upd_same, by decide, by decide, (by show 1 * 5 ≤ sizeLine; decide), fun u nu => ?_⟩⟩
        have s4 := s3.trans (same_new (H := H3) (p := o) (.lst [(.bl false)]) no)
        have s5 := s4.trans (same_new (p := u) (.lst [(.bl false), (.bl false), (.bl false), (.bl false), (.bl false)]) nu)
        have eu : (L2.upd (L2.upd H3 o (.lst [(.bl false)])) u (.lst [(.bl false), (.bl false), (.bl false), (.bl false), (.bl false)])) u = some (.lst [.bl false, .bl false, .bl false, .bl false, .bl false]) := by rw [upd_same, hE]
        refine .inr (.inr ⟨u, _, rfl, dp5 eu, .inl (nice5 false), ?_⟩)
        have fin : ∀ t : V, Q (V.bl (decide (t = t))) (L2.upd (L2.upd H3 o (.lst [(.bl false)])) u (.lst [(.bl false), (.bl false), (.bl false), (.bl false), (.bl false)])) := fun t => by rw [decide_eq_true rfl]; exact q _ s5
        exact ⟨rfl, fin _⟩
      · rw [decide_eq_false hb]
        refine iteF ?_
        refine ⟨rfl, x, rfl, x, _, rfl, hv _ (Same.refl H), rfl, x, rfl, x, _, rfl, hv _ (Same.refl H), rfl, x, rfl, x, _, rfl, hv _ (Same.refl H), (by show 3 ≤ sizeLine; decide), fun D nD => ?_⟩
        rw [hB]
        have s1 := same_new (H := H) (p := D) (.lst [.bl false, .bl false, .bl false]) nD
        have eD : (L2.upd H D (.lst [.bl false, .bl false, .bl false])) D = some (.lst [.bl false, .bl false, .bl false]) := upd_same
        generalize L2.upd H D _ = H1 at s1 eD ⊢
        refine ⟨.ref D, rfl, rfl, x, rfl, x, _, rfl, hv _ s1, rfl, x, rfl, x, _, rfl, hv _ s1, (by show 2 ≤ sizeLine; decide), fun D2 nD2 => ?_⟩
        rw [hB]
        have s2 := s1.trans (same_new (H := H1) (p := D2) (.lst [.bl false, .bl false]) nD2)
        have eD2 : (L2.upd H1 D2 (.lst [.bl false, .bl false])) D2 = some (.lst [.bl false, .bl false]) := upd_same
        have eD' := same_new (H := H1) (p := D2) (.lst [.bl false, .bl false]) nD2 _ _ eD
        generalize L2.upd H1 D2 _ = H2 at s2 eD2 eD' ⊢
        refine ⟨D, D2, _, _, rfl, rfl, eD', eD2, (by show 5 ≤ sizeLine; decide), fun R nR => ?_⟩
        have s3 := s2.trans (same_new (H := H2) (p := R) (.lst ([.bl false, .bl false, .bl false] ++ [.bl false, .bl false])) nR)
        have eR : (L2.upd H2 R (.lst ([.bl false, .bl false, .bl false] ++ [.bl false, .bl false]))) R = some (.lst [.bl false, .bl false, .bl false, .bl false, .bl false]) := upd_same
        generalize L2.upd H2 R _ = H3 at s3 eR ⊢
        have dp5 : ∀ {H : Hp} {p : Addr}, H p = some (.lst [.bl false, .bl false, .bl false, .bl false, .bl false]) → Dp K H (.ref p) (.list [.bool false, .bool false, .bool false, .bool false, .bool false]) := fun h => .lst (SqL.of h) (.cons (.bl _) (.cons (.bl _) (.cons (.bl _) (.cons (.bl _) (.cons (.bl _) .nil)))))
        refine ⟨.ref R, rfl, .inr (.inr ⟨R, _, rfl, dp5 eR, .inl (nice5 false), ?_⟩)⟩
        refine ⟨(.bl false), rfl, (by show 1 ≤ sizeLine; decide), fun o no => ⟨o, 5, _, rfl, rfl, upd_same, by decide, by decide, (by show 1 * 5 ≤ sizeLine; decide), fun u nu => ?_⟩⟩
        have s4 := s3.trans (same_new (H := H3) (p := o) (.lst [(.bl false)]) no)
        have s5 := s4.trans (same_new (p := u) (.lst [(.bl false), (.bl false), (.bl false), (.bl false), (.bl false)]) nu)
        have eu : (L2.upd (L2.upd H3 o (.lst [(.bl false)])) u (.lst [(.bl false), (.bl false), (.bl false), (.bl false), (.bl false)])) u = some (.lst [.bl false, .bl false, .bl false, .bl false, .bl false]) := by rw [upd_same, hE]
        refine .inr (.inr ⟨u, _, rfl, dp5 eu, .inl (nice5 false), ?_⟩)
        have fin : ∀ t : V, Q (V.bl (decide (t = t))) (L2.upd (L2.upd H3 o (.lst [(.bl false)])) u (.lst [(.bl false), (.bl false), (.bl false), (.bl false), (.bl false)])) := fun t => by rw [decide_eq_true rfl]; exact q _ s5
        exact ⟨rfl, fin _⟩
end

section
variable {P : Program} {w : World} {K : PySem.W.Frag} {mg : Str → Option Value} {base : Heap}
theorem mkS {x dx : Addr} {o1 o2 : HO} {H H' : Hp} (nx : H x = none) (nd : H dx = none) (ne : dx ≠ x) (b : ButA x (L2.upd (L2.upd H dx o1) x o2) H') : Same H H' := fun c o e => by
  have hx : c ≠ x := ne_of_none e nx
  have hd : c ≠ dx := ne_of_none e nd
  exact b c o hx (by rw [upd_ne hx, upd_ne hd]; exact e)
theorem flW (T : Txt K mg) : Fl K T.C_Wall := ⟨T.cl_Wall, T.na_columns_Wall, T.na_right_Wall, T.na_gap_Wall, T.na_cards_Wall, T.na_calls_Wall⟩
theorem flR (T : Txt K mg) : Fl K T.C_RightWall := ⟨T.cl_RightWall, T.na_columns_RightWall, T.na_right_RightWall, T.na_gap_RightWall, T.na_cards_RightWall, T.na_calls_RightWall⟩
theorem flG (T : Txt K mg) : Fl K T.C_GapWall := ⟨T.cl_GapWall, T.na_columns_GapWall, T.na_right_GapWall, T.na_gap_GapWall, T.na_cards_GapWall, T.na_calls_GapWall⟩
theorem flB (T : Txt K mg) : Fl K T.C_GapRightWall := ⟨T.cl_GapRightWall, T.na_columns_GapRightWall, T.na_right_GapRightWall, T.na_gap_GapRightWall, T.na_cards_GapRightWall, T.na_calls_GapRightWall⟩
theorem pick3 {a b c r : Int} (h0 : 0 ≤ r) (h1 : r < 3) : ∃ m, atI ([a, b, c].map V.int) r = some (.int m) := by
  obtain ⟨k, rfl⟩ := Int.eq_ofNat_of_zero_le h0
  have hk : k = 0 ∨ k = 1 ∨ k = 2 := by omega
  rcases hk with rfl | rfl | rfl
  · exact ⟨a, atI_nat rfl⟩
  · exact ⟨b, atI_nat rfl⟩
  · exact ⟨c, atI_nat rfl⟩
def spLaw (K : PySem.W.Frag) : Sp := fun vs H Q _ => ∃ (a : Addr) (ns : List Int), vs = [.ref a] ∧ Scr K H a (ns.map V.int) ∧ ns.length ≤ 63 ∧ ∀ H', Q (.bl true) H'
set_option maxHeartbeats 1000000 in
theorem ok_law (hP : FileOk P) (T : Txt K mg) : FnG P w K mg base CX0 8 T.a_law T.d_law ["script"] (spLaw K) := by
  refine funG0 T.F_law sc_law (fun vs H Q E h => ?_) (fun cdv A outer s H vs Q E hgu hr h => ?_)
  · obtain ⟨a, ns, rfl, _⟩ := h; rfl
  · obtain ⟨a, ns, rfl, hS, hl, q⟩ := h
    refine ⟨_, (pss_cons (ps_set (i := 1) sc_law.nd rfl (.inl rfl) (pe_lst (pa_cons pe_non (pa_cons pe_bl (pa_cons pe_bl (pa_cons pe_str (pa_cons (pe_lst (pa_cons pe_int pa_nil)) (pa_cons (pe_tup (pa_cons pe_int pa_nil)) (pa_cons pe_dnewK (pa_cons pe_str (pa_cons (pe_lst pa_nil) (pa_cons pe_int (pa_cons pe_int (pa_cons (pe_un un_neg pe_int) (pa_cons (pe_op op_powW pe_int pe_int) (pa_cons (pe_op op_add (pe_op op_powW pe_int pe_int) pe_int) (pa_cons (pe_un un_neg (pe_op op_powW pe_int pe_int)) pa_nil)))))))))))))))))
  (pss_cons (ps_if (pt_cmpR (op_neD hr.units) (pe_lc (own := [("thing", 9)]) rfl sc_law.nd (pi_list (pv 1)) (blkOk_by (own := [("thing", 9)]) (N := nm_law) (sc := defScope s_law) (by decide +kernel)) (fun _ _ _ _ _ => (pg_name (i := 9) sc_law.nd rfl (.inl rfl))) (fun _ _ _ _ _ => (pts_one (pt_not (pt_val (pe_callG (ok_law_right T) hgu (hr.mono (by decide)) (by rfl) T.g_law_right T.F_law_right.kp T.b_law_right .nil pass0 (pa_cons (pv 9) pa_nil)))))) (fun _ _ _ _ _ => pe_int)) (pe_lst pa_nil) (nomark _))
  (pss_one (ps_ret pe_bl))
  pss_nil)
  (pss_cons (ps_for PassesOwn.never rfl (pi_enum (by rfl) T.z_enumerate (pa_cons (pe_call (ok_law_cells T) (hr.mono (by decide)) (by rfl) T.g_law_cells T.F_law_cells.kp T.b_law_cells .nil pass0 (pa_cons (pv 0) (pa_cons pe_int pa_nil))) pa_nil)) (pg_tup rfl (pgs_cons (pg_name (i := 2) sc_law.nd rfl (.inl rfl)) (pgs_cons (pg_name (i := 3) sc_law.nd rfl (.inl rfl)) pgs_nil)))
  (pss_cons (ps_set (i := 4) sc_law.nd rfl (.inl rfl) (pe_call (ok_law_source T) (hr.mono (by decide)) (by rfl) T.g_law_source T.F_law_source.kp T.b_law_source .nil pass0 (pa_cons (pv 3) (pa_cons (pv 2) pa_nil))))
  (pss_one (ps_for PassesOwn.never rfl (pi_range1 (by rfl) T.z_range (pa_cons pe_int pa_nil)) (pg_name (i := 5) sc_law.nd rfl (.inl rfl))
  (pss_cons (ps_par (i := 6) (j := 7) rfl sc_law.nd rfl rfl (by decide) rfl rfl (pa_cons (pe_op op_sub (pe_call (ok_law_draw T) (hr.mono (by decide)) (by rfl) T.g_law_draw T.F_law_draw.kp T.b_law_draw .nil pass0 (pa_cons (pv 4) (pa_cons pe_int pa_nil))) pe_int) (pa_cons (pe_op op_add (pe_op op_sub (pe_op op_powW pe_int pe_int) pe_int) (pe_call (ok_law_draw T) (hr.mono (by decide)) (by rfl) T.g_law_draw T.F_law_draw.kp T.b_law_draw .nil pass0 (pa_cons (pv 4) (pa_cons pe_int pa_nil)))) pa_nil)) (by rfl))
  (pss_one (ps_if (pt_not (pt_val (pe_callG (ok_law_right T) hgu (hr.mono (by decide)) (by rfl) T.g_law_right T.F_law_right.kp T.b_law_right .nil pass0 (pa_cons (pe_ix ix_list (pe_lst (pa_cons (pv 6) (pa_cons (pv 7) (pa_cons (pe_call (ok_law_draw T) (hr.mono (by decide)) (by rfl) T.g_law_draw T.F_law_draw.kp T.b_law_draw .nil pass0 (pa_cons (pv 4) (pa_cons (pe_op op_powW pe_int pe_int) pa_nil))) pa_nil)))) (pe_call (ok_law_draw T) (hr.mono (by decide)) (by rfl) T.g_law_draw T.F_law_draw.kp T.b_law_draw .nil pass0 (pa_cons (pv 4) (pa_cons pe_int pa_nil))) (fun _ _ => rfl)) pa_nil))))
  (pss_one (ps_ret pe_bl))
  pss_nil)))))))
  (pss_cons (ps_set (i := 8) sc_law.nd rfl (.inl rfl) (pe_lst (pa_cons (pe_makeK0 T.mk_Wall (ok_Wall_init T) (hr.mono (by decide)) (by rfl) T.gc_Wall T.kb_Wall pass0 (pk_cons pe_int pk_nil)) (pa_cons (pe_makeK0 T.mk_RightWall (ok_RightWall_init hP T) (hr.mono (by decide)) (by rfl) T.gc_RightWall T.kb_RightWall pass0 (pk_cons pe_int pk_nil)) (pa_cons (pe_makeK0 T.mk_GapWall (ok_GapWall_init hP T) (hr.mono (by decide)) (by rfl) T.gc_GapWall T.kb_GapWall pass0 (pk_cons pe_int (pk_cons pe_int pk_nil))) (pa_cons (pe_makeK0 T.mk_GapRightWall (ok_GapRightWall_init hP T) (hr.mono (by decide)) (by rfl) T.gc_GapRightWall T.kb_GapRightWall pass0 (pk_cons pe_int (pk_cons (pe_op op_powW pe_int pe_int) pk_nil))) pa_nil))))))
  (pss_cons (ps_if (PW.pt (pw_or (pt_cmpR (op_neD hr.units) (pe_lc (own := [("one", 10)]) rfl sc_law.nd (pi_list (pv 8)) (blkOk_by (own := [("one", 10)]) (N := nm_law) (sc := defScope s_law) (by decide +kernel)) (fun _ _ _ _ _ => (pg_name (i := 10) sc_law.nd rfl (.inl rfl))) (fun _ _ _ _ _ => pts_nil) (fun _ _ _ _ _ => (PE.orT (pe_prop (pv 10) T.cl_Wall T.pwidth_Wall (ok_Wall_width T) (hr.mono (by decide)) T.bwidth_Wall .nil pass0 (by rfl)) (PE.orT (pe_prop (pv 10) T.cl_RightWall T.pwidth_RightWall (ok_RightWall_width T) (hr.mono (by decide)) T.bwidth_RightWall .nil pass0 (by rfl)) (PE.orT (pe_prop (pv 10) T.cl_GapWall T.pwidth_GapWall (ok_GapWall_width T) (hr.mono (by decide)) T.bwidth_GapWall .nil pass0 (by rfl)) (pe_prop (pv 10) T.cl_GapRightWall T.pwidth_GapRightWall (ok_GapRightWall_width T) (hr.mono (by decide)) T.bwidth_GapRightWall .nil pass0 (by rfl))))))) (pe_lst (pa_cons pe_int (pa_cons pe_int (pa_cons pe_int (pa_cons pe_int pa_nil))))) (nomark _)) (pw_or1 (pt_cmpR (op_neD hr.units) (pe_lst (pa_cons (PE.orT (pe_prop (pe_ix ix_list (pv 8) pe_int (fun _ _ => rfl)) T.cl_GapWall T.pgap_GapWall (ok_GapWall_gap T) (hr.mono (by decide)) T.bgap_GapWall .nil pass0 (by rfl)) (pe_prop (pe_ix ix_list (pv 8) pe_int (fun _ _ => rfl)) T.cl_GapRightWall T.pgap_GapRightWall (ok_GapRightWall_gap T) (hr.mono (by decide)) T.bgap_GapRightWall .nil pass0 (by rfl))) (pa_cons (PE.orT (pe_prop (pe_ix ix_list (pv 8) pe_int (fun _ _ => rfl)) T.cl_GapWall T.pgap_GapWall (ok_GapWall_gap T) (hr.mono (by decide)) T.bgap_GapWall .nil pass0 (by rfl)) (pe_prop (pe_ix ix_list (pv 8) pe_int (fun _ _ => rfl)) T.cl_GapRightWall T.pgap_GapRightWall (ok_GapRightWall_gap T) (hr.mono (by decide)) T.bgap_GapRightWall .nil pass0 (by rfl))) pa_nil))) (pe_lst (pa_cons pe_int (pa_cons (pe_op op_powW pe_int pe_int) pa_nil))) (nomark _)))))
  (pss_one (ps_ret pe_bl))
  pss_nil)
  (pss_cons (ps_if (PW.pt (pw_or (pt_cmpR (op_neD hr.units) (pe_lc (own := [("one", 10)]) rfl sc_law.nd (pi_list (pv 8)) (blkOk_by (own := [("one", 10)]) (N := nm_law) (sc := defScope s_law) (by decide +kernel)) (fun _ _ _ _ _ => (pg_name (i := 10) sc_law.nd rfl (.inl rfl))) (fun _ _ _ _ _ => pts_nil) (fun _ _ _ _ _ => (PE.orT (pe_sinst (pv 10) T.si_Wall_is_height (ok_Wall_is_height T) (hr.mono (by decide)) T.bis_height_Wall .nil pass0 (pa_cons pe_int pa_nil)) (PE.orT (pe_sinst (pv 10) T.si_RightWall_is_height (ok_RightWall_is_height T) (hr.mono (by decide)) T.bis_height_RightWall .nil pass0 (pa_cons pe_int pa_nil)) (PE.orT (pe_sinst (pv 10) T.si_GapWall_is_height (ok_GapWall_is_height T) (hr.mono (by decide)) T.bis_height_GapWall .nil pass0 (pa_cons pe_int pa_nil)) (pe_sinst (pv 10) T.si_GapRightWall_is_height (ok_GapRightWall_is_height T) (hr.mono (by decide)) T.bis_height_GapRightWall .nil pass0 (pa_cons pe_int pa_nil))))))) (pe_op op_rep (pe_lst (pa_cons pe_bl pa_nil)) pe_int) (nomark _)) (pw_or1 (pt_cmpR (op_neD hr.units) (pe_lc (own := [("one", 10)]) rfl sc_law.nd (pi_list (pv 8)) (blkOk_by (own := [("one", 10)]) (N := nm_law) (sc := defScope s_law) (by decide +kernel)) (fun _ _ _ _ _ => (pg_name (i := 10) sc_law.nd rfl (.inl rfl))) (fun _ _ _ _ _ => pts_nil) (fun _ _ _ _ _ => (PE.orT (pe_sinst (pv 10) T.si_Wall_is_height (ok_Wall_is_height T) (hr.mono (by decide)) T.bis_height_Wall .nil pass0 (pa_cons pe_int pa_nil)) (PE.orT (pe_sinst (pv 10) T.si_RightWall_is_height (ok_RightWall_is_height T) (hr.mono (by decide)) T.bis_height_RightWall .nil pass0 (pa_cons pe_int pa_nil)) (PE.orT (pe_sinst (pv 10) T.si_GapWall_is_height (ok_GapWall_is_height T) (hr.mono (by decide)) T.bis_height_GapWall .nil pass0 (pa_cons pe_int pa_nil)) (pe_sinst (pv 10) T.si_GapRightWall_is_height (ok_GapRightWall_is_height T) (hr.mono (by decide)) T.bis_height_GapRightWall .nil pass0 (pa_cons pe_int pa_nil))))))) (pe_op op_rep (pe_lst (pa_cons pe_bl pa_nil)) pe_int) (nomark _)))))
  (pss_one (ps_ret pe_bl))
  pss_nil)
  (pss_one (ps_ret (pe_cmpR (op_eqD hr.units) (pe_lst (pa_cons (ClX.pe_cval (pe_glob (v := .ref T.C_Wall) (by rfl) T.gc_Wall rfl)) (pa_cons (ClX.pe_cval (pe_glob (v := .ref T.C_RightWall) (by rfl) T.gc_RightWall rfl)) (pa_cons (ClX.pe_cval (pe_glob (v := .ref T.C_GapWall) (by rfl) T.gc_GapWall rfl)) (pa_cons (ClX.pe_cval (pe_glob (v := .ref T.C_GapRightWall) (by rfl) T.gc_GapRightWall rfl)) pa_nil))))) (pe_op op_rep (pe_lst (pa_cons pe_int pa_nil)) pe_int) (nomark _)))))))))), ?_⟩
    refine ⟨(by show 1 ≤ sizeLine; decide), fun u1 nu1 => ⟨(by show 1 ≤ sizeLine; decide), fun u2 nu2 u3 nu3 => ⟨Nat.zero_le _, fun u4 nu4 => ?_⟩⟩⟩
    have t1 := same_new (H := H) (p := u1) (.lst [.int 1]) nu1
    have e1 : (L2.upd H u1 (.lst [.int 1])) u1 = some (.lst [.int 1]) := upd_same
    generalize L2.upd H u1 _ = H1 at t1 e1 nu2 nu3 nu4 ⊢
    have t2 := same_new (H := H1) (p := u2) (.tup [.int 1]) nu2
    have e2 : (L2.upd H1 u2 (.tup [.int 1])) u2 = some (.tup [.int 1]) := upd_same
    generalize L2.upd H1 u2 _ = H2 at t2 e2 nu3 nu4 ⊢
    have t3 := same_new (H := H2) (p := u3) (.dK []) nu3
    have e3 : (L2.upd H2 u3 (.dK [])) u3 = some (.dK []) := upd_same
    generalize L2.upd H2 u3 _ = H3 at t3 e3 nu4 ⊢
    have t4 := same_new (H := H3) (p := u4) (.lst []) nu4
    have e4 : (L2.upd H3 u4 (.lst [])) u4 = some (.lst []) := upd_same
    generalize L2.upd H3 u4 _ = H4 at t4 e4 ⊢
    refine ⟨1, rfl, 10, 30, rfl, rfl, ⟨by decide, by decide⟩, 10, 30, rfl, rfl, ⟨by decide, by decide⟩, _, 1, rfl, rfl, 10, 30, rfl, rfl, ⟨by decide, by decide⟩, _, rfl, (by show 15 ≤ sizeLine; decide), fun O nO => ?_⟩
    obtain ⟨items, hitems⟩ : ∃ items : List V, items = [.non, .bl true, .bl false, .str "1", .ref u1, .ref u2, .ref u3, .str "", .ref u4, .int 0, .int 1, .int (-1), .int (10 ^ (30 : Int).toNat), .int (10 ^ (30 : Int).toNat + 1), .int (-10 ^ (30 : Int).toNat)] := ⟨_, rfl⟩
    have tO := same_new (H := H4) (p := O) (.lst items) nO
    have eO : (L2.upd H4 O (.lst items)) O = some (.lst items) := upd_same
    rw [hitems] at tO eO
    have S4 := t1.trans (t2.trans (t3.trans t4))
    generalize L2.upd H4 O _ = G at tO eO ⊢
    have SG := S4.trans tO
    have all : ∀ v ∈ items, ∃ d, Avs K G v d := fun v hv => by
      rw [hitems] at hv
      simp only [List.mem_cons, List.not_mem_nil, or_false] at hv
      rcases hv with rfl | rfl | rfl | rfl | rfl | rfl | rfl | rfl | rfl | rfl | rfl | rfl | rfl | rfl | rfl
      · exact ⟨none, fun H' _ => .inr ⟨rfl, _, by decide, .non⟩⟩
      · exact ⟨none, fun H' _ => .inr ⟨rfl, _, by decide, .bl _⟩⟩
      · exact ⟨none, fun H' _ => .inr ⟨rfl, _, by decide, .bl _⟩⟩
      · exact ⟨none, fun H' _ => .inr ⟨rfl, _, by decide, .str _⟩⟩
      · exact ⟨none, fun H' s' => .inr ⟨rfl, _, by decide, .lst (s' _ _ (tO _ _ (t4 _ _ (t3 _ _ (t2 _ _ e1)))))⟩⟩
      · exact ⟨none, fun H' s' => .inr ⟨rfl, _, by decide, .tup (s' _ _ (tO _ _ (t4 _ _ (t3 _ _ e2))))⟩⟩
      · exact ⟨none, fun H' s' => .inr ⟨rfl, _, by decide, .dK (s' _ _ (tO _ _ (t4 _ _ e3)))⟩⟩
      · exact ⟨none, fun H' _ => .inr ⟨rfl, _, by decide, .str _⟩⟩
      · exact ⟨none, fun H' s' => .inr ⟨rfl, _, by decide, .lst (s' _ _ (tO _ _ e4))⟩⟩
      all_goals exact ⟨_, Avs.int G _⟩
    rw [← hitems] at eO
    refine ⟨.ref O, rfl, O, rfl, ⟨_, SqL.of (by rw [hitems] at eO; exact eO)⟩, fun D nD => ?_⟩
    refine lc_list (K := K) (a := O) (xs := items) (fun i H' => Same G H' ∧ H' D = some (.lst [])) ⟨same_new _ nD, upd_same⟩ (fun i H' _ p => SqL.of (p.1 _ _ eO)) (fun i x H' e p => ?_) (fun H' p => ?_)
    · obtain ⟨d, hv⟩ := all x (List.mem_of_getElem? e)
      refine ⟨rfl, ?_⟩
      exact ⟨x, rfl, x, d, rfl, hv.same p.1, fun H2 s2 => ⟨true, rfl, iteF ⟨p.1.trans s2, s2 _ _ p.2⟩⟩⟩
    · obtain ⟨s5, eD⟩ := p
      refine ⟨Nat.zero_le _, fun e ne => ?_⟩
      refine ⟨_, _, .lst (xs := ([] : List Int).map V.int) (SqL.of (same_new _ ne _ _ eD)) (dpInts []), .lst (SqL.of upd_same) .nil, shapedInts [], rfl, ?_⟩
      refine ⟨false, rfl, iteF ?_⟩
      have s5e := same_new (H := H') (p := e) (.lst []) ne
      have SE := s5.trans s5e
      generalize L2.upd H' e _ = G1 at SE s5e ⊢
      have SG1 := SG.trans SE
      refine ⟨.ref a, rfl, a, ns, 10, rfl, hS.same SG1, by decide, fun C H6 cs s6 eC lc => ?_⟩
      refine ⟨C, _, rfl, SqL.of eC, ?_⟩
      refine for_enum (K := K) (a := C) (xs := cs.map V.int) (fun i σ H' => ∃ y2 y3 y4 y5 y6 y7, σ = [some (.ref a), some (.ref O), y2, y3, y4, y5, y6, y7, none, none, none] ∧ Same H6 H') ⟨none, none, none, none, none, none, rfl, Same.refl _⟩ (fun i σ H' _ h => ?_) (fun i x σ H' Tp ex h nTp => ?_) (fun σ H' h => ?_)
      · obtain ⟨_, _, _, _, _, _, _, s'⟩ := h
        exact SqL.of (s' _ _ eC)
      · obtain ⟨y2, y3, y4, y5, y6, y7, rfl, s'⟩ := h
        obtain ⟨cell, ec, rfl⟩ := get_map ex
        have hi := get_lt ec
        have sT := same_new (H := H') (p := Tp) (.tup [.int (i : Nat), .int cell]) nTp
        refine ⟨Tp, [_, _], rfl, SqT.of upd_same, rfl, _, [_], rfl, _, [], rfl, rfl, ?_⟩
        have S3 := s'.trans sT
        generalize L2.upd H' Tp _ = H7 at S3 ⊢
        refine ⟨.int cell, rfl, .int (i : Nat), rfl, cell, i, rfl, by omega, by omega, fun p H8 np s8 P8 => ?_⟩
        have S8 := S3.trans s8
        have npH : H6 p = none := S3.free np
        refine ⟨8, rfl, by decide, by decide, ?_⟩
        refine for_range (lo := 0) (n := (8 : Int).toNat) (fun i2 σ H' => ∃ y5 y6 y7, σ = [some (.ref a), some (.ref O), some (.int (i : Nat)), some (.int cell), some (.ref p), y5, y6, y7, none, none, none] ∧ Src H' p (100 * (i2 : Nat)) ∧ But p H6 H') ⟨y5, y6, y7, rfl, P8.mono (by decide), But.of S8⟩ (fun i2 σ H9 hi2 h => ?_) (fun σ H9 h => ?_)
        · obtain ⟨y5, y6, y7, rfl, P9, B9⟩ := h
          have hi2' : i2 < 8 := hi2
          refine ⟨.ref p, rfl, p, 7, _, rfl, P9, by omega, by decide, by decide, fun r1 H10 b10 P10 r10 r11 => ⟨r1, 3, rfl, rfl, 10, 30, rfl, rfl, ⟨by decide, by decide⟩, _, 3, rfl, rfl, .ref p, rfl, p, 7, _, rfl, P10, by omega, by decide, by decide, fun r2 H11 b11 P11 r20 r21 => ⟨_, r2, rfl, rfl, _, _, rfl, ?_⟩⟩⟩
          refine ⟨.int (r1 - 3), rfl, .int (10 ^ (30 : Int).toNat - 3 + r2), rfl, .ref p, rfl, 10, 30, rfl, rfl, ⟨by decide, by decide⟩, p, _, _, rfl, P11, by omega, by decide +kernel, by decide +kernel, fun r3 H12 b12 P12 r30 r31 => ⟨(by show 3 ≤ sizeLine; decide), fun L nL => ?_⟩⟩
          have sL := same_new (H := H12) (p := L) (.lst [.int (r1 - 3), .int (10 ^ (30 : Int).toNat - 3 + r2), .int r3]) nL
          have eL : (L2.upd H12 L (.lst [.int (r1 - 3), .int (10 ^ (30 : Int).toNat - 3 + r2), .int r3])) L = some (.lst ([r1 - 3, 10 ^ (30 : Int).toNat - 3 + r2, r3].map V.int)) := upd_same
          have hpL := P12.ne nL
          have PL := P12.same sL
          generalize L2.upd H12 L _ = H13 at sL eL PL ⊢
          refine ⟨.ref p, rfl, p, 3, _, rfl, PL, by omega, by decide, by decide, fun r4 H14 b14 P14 r40 r41 => ?_⟩
          obtain ⟨m, em⟩ := pick3 r40 r41
          refine ⟨L, _, _, .int m, rfl, rfl, SqL.of (b14 _ _ hpL eL), em, ?_⟩
          have B14 : But p H6 H14 := B9.trans (b10.trans (b11.trans (b12.trans ((But.of sL).trans b14))))
          refine ⟨.int m, some m, rfl, Avs.int _ m, fun H15 s15 => ⟨true, rfl, iteF ?_⟩⟩
          exact ⟨_, _, _, rfl, (P14.same s15).mono (by push_cast; omega), B14.trans (But.of s15)⟩
        · obtain ⟨y5, y6, y7, rfl, P9, B9⟩ := h
          exact ⟨_, _, _, _, _, _, rfl, same_but (Same.refl H6) npH B9⟩
      · obtain ⟨y2, y3, y4, y5, y6, y7, rfl, s7⟩ := h
        refine ⟨rfl, rfl, fun x1 d1 nx1 nd1 ne1 => ⟨x1, T.C_Wall, d1, 1, rfl, upd_same, flW T, by decide, by decide, fun J1 b1 l11 l12 f1 => ⟨rfl, ?_⟩⟩⟩
        have m1 := mkS nx1 nd1 ne1 b1
        refine ⟨rfl, rfl, fun x2 d2 nx2 nd2 ne2 => ⟨x2, T.C_RightWall, d2, 30, rfl, upd_same, flR T, T.to_RightWall_RightWall, by decide, by decide, fun J2 b2 l21 l22 f2 => ⟨rfl, ?_⟩⟩⟩
        have m2 := mkS nx2 nd2 ne2 b2
        refine ⟨rfl, rfl, fun x3 d3 nx3 nd3 ne3 => ⟨x3, T.C_GapWall, d3, 30, 0, false, rfl, upd_same, flG T, .inl ⟨T.to_GapWall_GapWall, rfl⟩, by decide, by decide, by decide, by decide, fun J3 b3 l31 l32 f3 => ⟨rfl, ?_⟩⟩⟩
        have m3 := mkS nx3 nd3 ne3 b3
        refine ⟨10, 30, rfl, rfl, ⟨by decide, by decide⟩, rfl, rfl, fun x4 d4 nx4 nd4 ne4 => ⟨x4, d4, 1, 10 ^ (30 : Int).toNat, rfl, upd_same, flB T, by decide, by decide, by decide +kernel, by decide +kernel, fun J4 b4 l41 l42 f4 => ⟨rfl, ?_⟩⟩⟩
        have m4 := mkS nx4 nd4 ne4 b4
        refine ⟨(by show 4 ≤ sizeLine; decide), fun M nM => ?_⟩
        have mM := same_new (H := J4) (p := M) (.lst [.ref x1, .ref x2, .ref x3, .ref x4]) nM
        have eM : (L2.upd J4 M (.lst [.ref x1, .ref x2, .ref x3, .ref x4])) M = some (.lst [.ref x1, .ref x2, .ref x3, .ref x4]) := upd_same
        have F1 := mM _ _ (m4 _ _ (m3 _ _ (m2 _ _ f1)))
        have F2 := mM _ _ (m4 _ _ (m3 _ _ f2))
        have F3 := mM _ _ (m4 _ _ f3)
        have F4 := mM _ _ f4
        generalize L2.upd J4 M _ = J at eM F1 F2 F3 F4 ⊢
        -- widths
        refine ⟨.ref M, rfl, M, rfl, ⟨_, SqL.of eM⟩, fun D1 nD1 => ?_⟩
        refine lc_list (K := K) (a := M) (xs := [.ref x1, .ref x2, .ref x3, .ref x4]) (fun i H' => Same J H' ∧ H' D1 = some (.lst (([.int 1, .int 30, .int 30, .int 1] : List V).take i))) ⟨same_new _ nD1, upd_same⟩ (fun i H' _ p => SqL.of (p.1 _ _ eM)) (fun i x H' e p => ?_) (fun H' p => ?_)
        · rcases i with _ | _ | _ | _ | i
          · obtain rfl : x = .ref x1 := by cases e; rfl
            exact ⟨rfl, .inl ⟨.ref x1, rfl, x1, d1, _, rfl, p.1 _ _ F1, x1, d1, _, .int 1, rfl, p.1 _ _ F1, rfl, _, p.2, (by show 0 < sizeLine; decide), same_set p.1 nD1, upd_same⟩⟩
          · obtain rfl : x = .ref x2 := by cases e; rfl
            exact ⟨rfl, .inr (.inl ⟨.ref x2, rfl, x2, d2, _, rfl, p.1 _ _ F2, x2, d2, _, .int 30, rfl, p.1 _ _ F2, rfl, _, p.2, (by show 1 < sizeLine; decide), same_set p.1 nD1, upd_same⟩)⟩
          · obtain rfl : x = .ref x3 := by cases e; rfl
            exact ⟨rfl, .inr (.inr (.inl ⟨.ref x3, rfl, x3, d3, _, rfl, p.1 _ _ F3, x3, d3, _, .int 30, rfl, p.1 _ _ F3, rfl, _, p.2, (by show 2 < sizeLine; decide), same_set p.1 nD1, upd_same⟩))⟩
          · obtain rfl : x = .ref x4 := by cases e; rfl
            exact ⟨rfl, .inr (.inr (.inr ⟨.ref x4, rfl, x4, d4, _, rfl, p.1 _ _ F4, x4, d4, _, .int 1, rfl, p.1 _ _ F4, rfl, _, p.2, (by show 3 < sizeLine; decide), same_set p.1 nD1, upd_same⟩))⟩
          · cases e
        obtain ⟨j1, eD1⟩ := p
        have eD1 : H' D1 = some (.lst [.int 1, .int 30, .int 30, .int 1]) := eD1
        refine ⟨(by show 4 ≤ sizeLine; decide), fun e1' ne1' => ?_⟩
        have k1 := same_new (H := H') (p := e1') (.lst [.int 1, .int 30, .int 30, .int 1]) ne1'
        refine ⟨.list [.int 1, .int 30, .int 30, .int 1], .list [.int 1, .int 30, .int 30, .int 1], .lst (SqL.of (k1 _ _ eD1)) (.cons (.int _) (.cons (.int _) (.cons (.int _) (.cons (.int _) .nil)))), .lst (SqL.of upd_same) (.cons (.int _) (.cons (.int _) (.cons (.int _) (.cons (.int _) .nil)))), by decide +kernel, by decide +kernel, ?_⟩
        refine ⟨false, rfl, iteF ?_⟩
        have q1 := j1.trans k1
        generalize L2.upd H' e1' _ = J5 at q1 ⊢
        -- gaps
        refine .inl ⟨.ref M, rfl, M, _, 2, .ref x3, rfl, rfl, SqL.of (q1 _ _ eM), rfl, x3, d3, _, rfl, q1 _ _ F3, x3, d3, _, .int 0, rfl, q1 _ _ F3, rfl, ?_⟩
        refine .inr ⟨.ref M, rfl, M, _, 3, .ref x4, rfl, rfl, SqL.of (q1 _ _ eM), rfl, x4, d4, _, rfl, q1 _ _ F4, x4, d4, _, .int (10 ^ (30 : Int).toNat), rfl, q1 _ _ F4, rfl, ?_⟩
        refine ⟨(by show 2 ≤ sizeLine; decide), fun g1 ng1 => ⟨10, 30, rfl, rfl, ⟨by decide, by decide⟩, (by show 2 ≤ sizeLine; decide), fun g2' ng2 => ?_⟩⟩
        have k2 := same_new (H := J5) (p := g1) (.lst [.int 0, .int (10 ^ (30 : Int).toNat)]) ng1
        have eg1 : (L2.upd J5 g1 (.lst [.int 0, .int (10 ^ (30 : Int).toNat)])) g1 = some (.lst [.int 0, .int (10 ^ (30 : Int).toNat)]) := upd_same
        generalize L2.upd J5 g1 _ = J6 at k2 eg1 ng2 ⊢
        have k3 := same_new (H := J6) (p := g2') (.lst [.int 0, .int (10 ^ (30 : Int).toNat)]) ng2
        refine ⟨.list [.int 0, .int (10 ^ (30 : Int).toNat)], .list [.int 0, .int (10 ^ (30 : Int).toNat)], .lst (SqL.of (k3 _ _ eg1)) (.cons (.int _) (.cons (.int _) .nil)), .lst (SqL.of upd_same) (.cons (.int _) (.cons (.int _) .nil)), by decide +kernel, by decide +kernel, ?_⟩
        refine ⟨_, rfl, ?_⟩
        rw [show (!PyData.eqv (.list [.int 0, .int (10 ^ (30 : Int).toNat)]) (.list [.int 0, .int (10 ^ (30 : Int).toNat)])) = false from by decide +kernel]
        refine iteF ?_
        have q2 := q1.trans (k2.trans k3)
        generalize L2.upd J6 g2' _ = J7 at q2 ⊢
        -- is_height
        refine ⟨.ref M, rfl, M, rfl, ⟨_, SqL.of (q2 _ _ eM)⟩, fun D2 nD2 => ?_⟩
        have eM0 := q2 _ _ eM
        have F10 := q2 _ _ F1
        have F20 := q2 _ _ F2
        have F30 := q2 _ _ F3
        have F40 := q2 _ _ F4
        refine lc_list (K := K) (a := M) (xs := [.ref x1, .ref x2, .ref x3, .ref x4]) (fun i H' => Same J7 H' ∧ H' D2 = some (.lst (([.bl (okI 1 big (some 5)), .bl (okI 1 big (some 5)), .bl (okI 1 big (some 5)), .bl (okI 1 big (some 5))] : List V).take i))) ⟨same_new _ nD2, upd_same⟩ (fun i H' _ p => SqL.of (p.1 _ _ eM0)) (fun i x H' e p => ?_) (fun H' p => ?_)
        · rcases i with _ | _ | _ | _ | i
          · obtain rfl : x = .ref x1 := by cases e; rfl
            exact ⟨rfl, .inl ⟨.ref x1, rfl, x1, d1, _, rfl, p.1 _ _ F10, rfl, .int 5, some 5, rfl, .inl ⟨5, rfl, rfl⟩, _, p.2, (by show 0 < sizeLine; decide), same_set p.1 nD2, upd_same⟩⟩
          · obtain rfl : x = .ref x2 := by cases e; rfl
            exact ⟨rfl, .inr (.inl ⟨.ref x2, rfl, x2, d2, _, rfl, p.1 _ _ F20, rfl, .int 5, some 5, rfl, .inl ⟨5, rfl, rfl⟩, _, p.2, (by show 1 < sizeLine; decide), same_set p.1 nD2, upd_same⟩)⟩
          · obtain rfl : x = .ref x3 := by cases e; rfl
            exact ⟨rfl, .inr (.inr (.inl ⟨.ref x3, rfl, x3, d3, _, rfl, p.1 _ _ F30, rfl, .int 5, some 5, rfl, .inl ⟨5, rfl, rfl⟩, _, p.2, (by show 2 < sizeLine; decide), same_set p.1 nD2, upd_same⟩))⟩
          · obtain rfl : x = .ref x4 := by cases e; rfl
            exact ⟨rfl, .inr (.inr (.inr ⟨.ref x4, rfl, x4, d4, _, rfl, p.1 _ _ F40, rfl, .int 5, some 5, rfl, .inl ⟨5, rfl, rfl⟩, _, p.2, (by show 3 < sizeLine; decide), same_set p.1 nD2, upd_same⟩))⟩
          · cases e
        obtain ⟨j5, eD2⟩ := p
        have eD2 : H' D2 = some (.lst [.bl (okI 1 big (some 5)), .bl (okI 1 big (some 5)), .bl (okI 1 big (some 5)), .bl (okI 1 big (some 5))]) := eD2
        rw [show (okI 1 big (some 5)) = true from by decide +kernel] at eD2
        refine ⟨(by show 1 ≤ sizeLine; decide), fun o5 no5 => ⟨o5, 4, _, rfl, rfl, upd_same, by decide, by decide, (by show 1 * 4 ≤ sizeLine; decide), fun u5 nu5 => ?_⟩⟩
        have k5 := (same_new (H := H') (p := o5) (.lst [.bl true]) no5).trans (same_new (p := u5) (.lst [.bl true, .bl true, .bl true, .bl true]) nu5)
        refine ⟨.list [.bool true, .bool true, .bool true, .bool true], .list [.bool true, .bool true, .bool true, .bool true], .lst (SqL.of (k5 _ _ eD2)) (.cons (.bl _) (.cons (.bl _) (.cons (.bl _) (.cons (.bl _) .nil)))), .lst (SqL.of upd_same) (.cons (.bl _) (.cons (.bl _) (.cons (.bl _) (.cons (.bl _) .nil)))), by decide +kernel, by decide +kernel, ?_⟩
        refine ⟨false, rfl, iteF ?_⟩
        have q3 := q2.trans (j5.trans k5)
        rw [show (List.replicate (4 : Int).toNat [V.bl true]).flatten = [V.bl true, V.bl true, V.bl true, V.bl true] from rfl]
        generalize L2.upd (L2.upd H' o5 _) u5 _ = J9 at q3 ⊢
        -- is_height
        refine ⟨.ref M, rfl, M, rfl, ⟨_, SqL.of (q3 _ _ eM)⟩, fun D3 nD3 => ?_⟩
        have eM1 := q3 _ _ eM
        have F11 := q3 _ _ F1
        have F21 := q3 _ _ F2
        have F31 := q3 _ _ F3
        have F41 := q3 _ _ F4
        refine lc_list (K := K) (a := M) (xs := [.ref x1, .ref x2, .ref x3, .ref x4]) (fun i H' => Same J9 H' ∧ H' D3 = some (.lst (([.bl (okI 1 big (some 0)), .bl (okI 1 big (some 0)), .bl (okI 1 big (some 0)), .bl (okI 1 big (some 0))] : List V).take i))) ⟨same_new _ nD3, upd_same⟩ (fun i H' _ p => SqL.of (p.1 _ _ eM1)) (fun i x H' e p => ?_) (fun H' p => ?_)
        · rcases i with _ | _ | _ | _ | i
          · obtain rfl : x = .ref x1 := by cases e; rfl
            exact ⟨rfl, .inl ⟨.ref x1, rfl, x1, d1, _, rfl, p.1 _ _ F11, rfl, .int 0, some 0, rfl, .inl ⟨0, rfl, rfl⟩, _, p.2, (by show 0 < sizeLine; decide), same_set p.1 nD3, upd_same⟩⟩
          · obtain rfl : x = .ref x2 := by cases e; rfl
            exact ⟨rfl, .inr (.inl ⟨.ref x2, rfl, x2, d2, _, rfl, p.1 _ _ F21, rfl, .int 0, some 0, rfl, .inl ⟨0, rfl, rfl⟩, _, p.2, (by show 1 < sizeLine; decide), same_set p.1 nD3, upd_same⟩)⟩
          · obtain rfl : x = .ref x3 := by cases e; rfl
            exact ⟨rfl, .inr (.inr (.inl ⟨.ref x3, rfl, x3, d3, _, rfl, p.1 _ _ F31, rfl, .int 0, some 0, rfl, .inl ⟨0, rfl, rfl⟩, _, p.2, (by show 2 < sizeLine; decide), same_set p.1 nD3, upd_same⟩))⟩
          · obtain rfl : x = .ref x4 := by cases e; rfl
            exact ⟨rfl, .inr (.inr (.inr ⟨.ref x4, rfl, x4, d4, _, rfl, p.1 _ _ F41, rfl, .int 0, some 0, rfl, .inl ⟨0, rfl, rfl⟩, _, p.2, (by show 3 < sizeLine; decide), same_set p.1 nD3, upd_same⟩))⟩
          · cases e
        obtain ⟨j6, eD3⟩ := p
        have eD3 : H' D3 = some (.lst [.bl (okI 1 big (some 0)), .bl (okI 1 big (some 0)), .bl (okI 1 big (some 0)), .bl (okI 1 big (some 0))]) := eD3
        rw [show (okI 1 big (some 0)) = false from by decide +kernel] at eD3
        refine ⟨(by show 1 ≤ sizeLine; decide), fun o6 no6 => ⟨o6, 4, _, rfl, rfl, upd_same, by decide, by decide, (by show 1 * 4 ≤ sizeLine; decide), fun u6 nu6 => ?_⟩⟩
        have k6 := (same_new (H := H') (p := o6) (.lst [.bl false]) no6).trans (same_new (p := u6) (.lst [.bl false, .bl false, .bl false, .bl false]) nu6)
        refine ⟨.list [.bool false, .bool false, .bool false, .bool false], .list [.bool false, .bool false, .bool false, .bool false], .lst (SqL.of (k6 _ _ eD3)) (.cons (.bl _) (.cons (.bl _) (.cons (.bl _) (.cons (.bl _) .nil)))), .lst (SqL.of upd_same) (.cons (.bl _) (.cons (.bl _) (.cons (.bl _) (.cons (.bl _) .nil)))), by decide +kernel, by decide +kernel, ?_⟩
        refine ⟨false, rfl, iteF ?_⟩
        have q4 := q3.trans (j6.trans k6)
        rw [show (List.replicate (4 : Int).toNat [V.bl false]).flatten = [V.bl false, V.bl false, V.bl false, V.bl false] from rfl]
        generalize L2.upd (L2.upd H' o6 _) u6 _ = J11 at q4 ⊢
        obtain ⟨tW, cW⟩ := T.cv_Wall
        obtain ⟨tR, cR⟩ := T.cv_RightWall
        obtain ⟨tG, cG⟩ := T.cv_GapWall
        obtain ⟨tB, cB⟩ := T.cv_GapRightWall
        refine ⟨T.C_Wall, _, .int 200, _, rfl, T.rd_Wall, cW, T.C_RightWall, _, .int 200, _, rfl, T.rd_RightWall, cR, T.C_GapWall, _, .int 200, _, rfl, T.rd_GapWall, cG, T.C_GapRightWall, _, .int 200, _, rfl, T.rd_GapRightWall, cB, (by show 4 ≤ sizeLine; decide), fun v1 nv1 => ?_⟩
        have ev1 : (L2.upd J11 v1 (.lst [.int 200, .int 200, .int 200, .int 200])) v1 = some (.lst [.int 200, .int 200, .int 200, .int 200]) := upd_same
        generalize L2.upd J11 v1 _ = J12 at ev1 ⊢
        refine ⟨(by show 1 ≤ sizeLine; decide), fun v2 nv2 => ⟨v2, 4, _, rfl, rfl, upd_same, by decide, by decide, (by show 1 * 4 ≤ sizeLine; decide), fun v3 nv3 => ?_⟩⟩
        have k9 := (same_new (H := J12) (p := v2) (.lst [.int 200]) nv2).trans (same_new (p := v3) (.lst [.int 200, .int 200, .int 200, .int 200]) nv3)
        refine ⟨.list [.int 200, .int 200, .int 200, .int 200], .list [.int 200, .int 200, .int 200, .int 200], .lst (SqL.of (k9 _ _ ev1)) (.cons (.int _) (.cons (.int _) (.cons (.int _) (.cons (.int _) .nil)))), .lst (SqL.of upd_same) (.cons (.int _) (.cons (.int _) (.cons (.int _) (.cons (.int _) .nil)))), by decide +kernel, by decide +kernel, ?_⟩
        exact q _
end

set_option maxHeartbeats 4000000 in
theorem all_mk {l : PySem.W.OpenLaw} {w : World} {K : PySem.W.Frag} {h : Heap} {mg : Str → Option Value} {fa : Addr}
  (X : K.In h) (G : h.Ns mainGlobals mg) (hfa : mg "law" = some (.ref fa))
  {od0 an0 : Option Addr} {sl0 : Array (Option Value)} {oc0 kV0 dc0 pm0 cd0 ct0 : Value} {f0 : Addr}
  {od1 an1 : Option Addr} {sl1 : Array (Option Value)} {oc1 kV1 dc1 pm1 cd1 ct1 : Value} {f1 : Addr}
  {od2 an2 : Option Addr} {sl2 : Array (Option Value)} {oc2 kV2 dc2 pm2 cd2 ct2 : Value} {f2 : Addr}
  {od3 an3 : Option Addr} {sl3 : Array (Option Value)} {oc3 kV3 dc3 pm3 cd3 ct3 : Value} {f3 : Addr}
  {od4 an4 : Option Addr} {sl4 : Array (Option Value)} {oc4 kV4 dc4 pm4 cd4 ct4 : Value} {f4 : Addr}
  {od5 an5 : Option Addr} {sl5 : Array (Option Value)} {oc5 kV5 dc5 pm5 cd5 ct5 : Value} {f5 : Addr}
  {od6 an6 : Option Addr} {sl6 : Array (Option Value)} {oc6 kV6 dc6 pm6 cd6 ct6 : Value} {f6 : Addr}
  {od7 an7 : Option Addr} {sl7 : Array (Option Value)} {oc7 kV7 dc7 pm7 cd7 ct7 : Value} {f7 : Addr}
  {od8 an8 : Option Addr} {sl8 : Array (Option Value)} {oc8 kV8 dc8 pm8 cd8 ct8 : Value} {f8 : Addr}
  {od9 an9 : Option Addr} {sl9 : Array (Option Value)} {oc9 kV9 dc9 pm9 cd9 ct9 : Value} {f9 : Addr}
  {od10 an10 : Option Addr} {sl10 : Array (Option Value)} {oc10 kV10 dc10 pm10 cd10 ct10 : Value} {f10 : Addr}
  {od11 an11 : Option Addr} {sl11 : Array (Option Value)} {oc11 kV11 dc11 pm11 cd11 ct11 : Value} {f11 : Addr}
  {C_Wall fi_Wall : Addr} {tm_Wall : Tok}
  {C_RightWall fi_RightWall : Addr} {tm_RightWall : Tok}
  {C_GapWall fi_GapWall : Addr} {tm_GapWall : Tok}
  {C_GapRightWall fi_GapRightWall : Addr} {tm_GapRightWall : Tok}
  {p_Wall h_Wall q_Wall w_Wall : Addr} {rs_Wall rw_Wall : List Value}
  {odh_Wall anh_Wall : Option Addr} {slh_Wall : Array (Option Value)} {och_Wall kVh_Wall dch_Wall pmh_Wall cdh_Wall cth_Wall : Value}
  {odw_Wall anw_Wall : Option Addr} {slw_Wall : Array (Option Value)} {ocw_Wall kVw_Wall dcw_Wall pmw_Wall cdw_Wall ctw_Wall : Value}
  {p_RightWall h_RightWall q_RightWall w_RightWall : Addr} {rs_RightWall rw_RightWall : List Value}
  {odh_RightWall anh_RightWall : Option Addr} {slh_RightWall : Array (Option Value)} {och_RightWall kVh_RightWall dch_RightWall pmh_RightWall cdh_RightWall cth_RightWall : Value}
  {odw_RightWall anw_RightWall : Option Addr} {slw_RightWall : Array (Option Value)} {ocw_RightWall kVw_RightWall dcw_RightWall pmw_RightWall cdw_RightWall ctw_RightWall : Value}
  {p_GapWall h_GapWall q_GapWall w_GapWall : Addr} {rs_GapWall rw_GapWall : List Value}
  {odh_GapWall anh_GapWall : Option Addr} {slh_GapWall : Array (Option Value)} {och_GapWall kVh_GapWall dch_GapWall pmh_GapWall cdh_GapWall cth_GapWall : Value}
  {odw_GapWall anw_GapWall : Option Addr} {slw_GapWall : Array (Option Value)} {ocw_GapWall kVw_GapWall dcw_GapWall pmw_GapWall cdw_GapWall ctw_GapWall : Value}
  {qg_GapWall wg_GapWall : Addr} {rwg_GapWall : List Value}
  {odwg_GapWall anwg_GapWall : Option Addr} {slwg_GapWall : Array (Option Value)} {ocwg_GapWall kVwg_GapWall dcwg_GapWall pmwg_GapWall cdwg_GapWall ctwg_GapWall : Value}
  {p_GapRightWall h_GapRightWall q_GapRightWall w_GapRightWall : Addr} {rs_GapRightWall rw_GapRightWall : List Value}
  {odh_GapRightWall anh_GapRightWall : Option Addr} {slh_GapRightWall : Array (Option Value)} {och_GapRightWall kVh_GapRightWall dch_GapRightWall pmh_GapRightWall cdh_GapRightWall cth_GapRightWall : Value}
  {odw_GapRightWall anw_GapRightWall : Option Addr} {slw_GapRightWall : Array (Option Value)} {ocw_GapRightWall kVw_GapRightWall dcw_GapRightWall pmw_GapRightWall cdw_GapRightWall ctw_GapRightWall : Value}
  {qg_GapRightWall wg_GapRightWall : Addr} {rwg_GapRightWall : List Value}
  {odwg_GapRightWall anwg_GapRightWall : Option Addr} {slwg_GapRightWall : Array (Option Value)} {ocwg_GapRightWall kVwg_GapRightWall dcwg_GapRightWall pmwg_GapRightWall cdwg_GapRightWall ctwg_GapRightWall : Value}
  {odfi_Wall anfi_Wall : Option Addr} {slfi_Wall : Array (Option Value)} {ocfi_Wall kVfi_Wall dcfi_Wall pmfi_Wall cdfi_Wall ctfi_Wall : Value}
  {ocRightWall kVRightWall dcRightWall pmRightWall ctRightWall clRightWall cclRightWall : Value} {odRightWall anRightWall cldRightWall cddRightWall : Option Addr} {slRightWall cslRightWall ccsRightWall : Array (Option Value)} {ccRightWall cdaRightWall : Addr} {vsRightWall : Array Value} {tfRightWall : Tok} {cDRightWall : ClassData}
  {ocGapWall kVGapWall dcGapWall pmGapWall ctGapWall clGapWall cclGapWall : Value} {odGapWall anGapWall cldGapWall cddGapWall : Option Addr} {slGapWall cslGapWall ccsGapWall : Array (Option Value)} {ccGapWall cdaGapWall : Addr} {vsGapWall : Array Value} {tfGapWall : Tok} {cDGapWall : ClassData}
  {TDGapWall : Addr} {tcGapWall : Value} {tdGapWall : Option Addr} {tvGapWall : Value} {tnGapWall : Nat} {tslGapWall : Array (Option Value)}
  {ocGapRightWall kVGapRightWall dcGapRightWall pmGapRightWall ctGapRightWall clGapRightWall cclGapRightWall : Value} {odGapRightWall anGapRightWall cldGapRightWall cddGapRightWall : Option Addr} {slGapRightWall cslGapRightWall ccsGapRightWall : Array (Option Value)} {ccGapRightWall cdaGapRightWall : Addr} {vsGapRightWall : Array Value} {tfGapRightWall : Tok} {cDGapRightWall : ClassData}
  {TDGapRightWall : Addr} {tcGapRightWall : Value} {tdGapRightWall : Option Addr} {tvGapRightWall : Value} {tnGapRightWall : Nat} {tslGapRightWall : Array (Option Value)}
  {t_MOST_NUMBER : Tok}
  (a0 : PySem.W.nsIn K mainGlobals "is_integer_within" = some (some (.ref f0)))
  (l0 : K.lookup f0 = some ⟨oc0, od0, .func (PySem.W.fnOf "is_integer_within" "is_integer_within" (defArgs s_is_integer_within) (defBody s_is_integer_within) (defScope s_is_integer_within) .none kV0 dc0 pm0 an0 cd0 ct0), sl0⟩)
  (c0 : PySem.W.codeIn K cd0 "is_integer_within" = true) (k0 : PySem.W.keepIn K (.ref f0) = true)
  (a1 : PySem.W.nsIn K mainGlobals "is_list_of_integers" = some (some (.ref f1)))
  (l1 : K.lookup f1 = some ⟨oc1, od1, .func (PySem.W.fnOf "is_list_of_integers" "is_list_of_integers" (defArgs s_is_list_of_integers) (defBody s_is_list_of_integers) (defScope s_is_list_of_integers) .none kV1 dc1 pm1 an1 cd1 ct1), sl1⟩)
  (c1 : PySem.W.codeIn K cd1 "is_list_of_integers" = true) (k1 : PySem.W.keepIn K (.ref f1) = true)
  (a2 : PySem.W.nsIn K mainGlobals "is_one_height" = some (some (.ref f2)))
  (l2 : K.lookup f2 = some ⟨oc2, od2, .func (PySem.W.fnOf "is_one_height" "is_one_height" (defArgs s_is_one_height) (defBody s_is_one_height) (defScope s_is_one_height) .none kV2 dc2 pm2 an2 cd2 ct2), sl2⟩)
  (c2 : PySem.W.codeIn K cd2 "is_one_height" = true) (k2 : PySem.W.keepIn K (.ref f2) = true)
  (a3 : PySem.W.nsIn K mainGlobals "check_columns" = some (some (.ref f3)))
  (l3 : K.lookup f3 = some ⟨oc3, od3, .func (PySem.W.fnOf "check_columns" "check_columns" (defArgs s_check_columns) (defBody s_check_columns) (defScope s_check_columns) .none kV3 dc3 pm3 an3 cd3 ct3), sl3⟩)
  (c3 : PySem.W.codeIn K cd3 "check_columns" = true) (k3 : PySem.W.keepIn K (.ref f3) = true)
  (a4 : PySem.W.nsIn K mainGlobals "check_number" = some (some (.ref f4)))
  (l4 : K.lookup f4 = some ⟨oc4, od4, .func (PySem.W.fnOf "check_number" "check_number" (defArgs s_check_number) (defBody s_check_number) (defScope s_check_number) .none kV4 dc4 pm4 an4 cd4 ct4), sl4⟩)
  (c4 : PySem.W.codeIn K cd4 "check_number" = true) (k4 : PySem.W.keepIn K (.ref f4) = true)
  (a5 : PySem.W.nsIn K mainGlobals "is_start" = some (some (.ref f5)))
  (l5 : K.lookup f5 = some ⟨oc5, od5, .func (PySem.W.fnOf "is_start" "is_start" (defArgs s_is_start) (defBody s_is_start) (defScope s_is_start) .none kV5 dc5 pm5 an5 cd5 ct5), sl5⟩)
  (c5 : PySem.W.codeIn K cd5 "is_start" = true) (k5 : PySem.W.keepIn K (.ref f5) = true)
  (a6 : PySem.W.nsIn K mainGlobals "is_cards" = some (some (.ref f6)))
  (l6 : K.lookup f6 = some ⟨oc6, od6, .func (PySem.W.fnOf "is_cards" "is_cards" (defArgs s_is_cards) (defBody s_is_cards) (defScope s_is_cards) .none kV6 dc6 pm6 an6 cd6 ct6), sl6⟩)
  (c6 : PySem.W.codeIn K cd6 "is_cards" = true) (k6 : PySem.W.keepIn K (.ref f6) = true)
  (a7 : PySem.W.nsIn K mainGlobals "_law_source" = some (some (.ref f7)))
  (l7 : K.lookup f7 = some ⟨oc7, od7, .func (PySem.W.fnOf "_law_source" "_law_source" (defArgs s_law_source) (defBody s_law_source) (defScope s_law_source) .none kV7 dc7 pm7 an7 cd7 ct7), sl7⟩)
  (c7 : PySem.W.codeIn K cd7 "_law_source" = true) (k7 : PySem.W.keepIn K (.ref f7) = true)
  (a8 : PySem.W.nsIn K mainGlobals "_law_draw" = some (some (.ref f8)))
  (l8 : K.lookup f8 = some ⟨oc8, od8, .func (PySem.W.fnOf "_law_draw" "_law_draw" (defArgs s_law_draw) (defBody s_law_draw) (defScope s_law_draw) .none kV8 dc8 pm8 an8 cd8 ct8), sl8⟩)
  (c8 : PySem.W.codeIn K cd8 "_law_draw" = true) (k8 : PySem.W.keepIn K (.ref f8) = true)
  (a9 : PySem.W.nsIn K mainGlobals "_law_cells" = some (some (.ref f9)))
  (l9 : K.lookup f9 = some ⟨oc9, od9, .func (PySem.W.fnOf "_law_cells" "_law_cells" (defArgs s_law_cells) (defBody s_law_cells) (defScope s_law_cells) .none kV9 dc9 pm9 an9 cd9 ct9), sl9⟩)
  (c9 : PySem.W.codeIn K cd9 "_law_cells" = true) (k9 : PySem.W.keepIn K (.ref f9) = true)
  (a10 : PySem.W.nsIn K mainGlobals "_law_right" = some (some (.ref f10)))
  (l10 : K.lookup f10 = some ⟨oc10, od10, .func (PySem.W.fnOf "_law_right" "_law_right" (defArgs s_law_right) (defBody s_law_right) (defScope s_law_right) .none kV10 dc10 pm10 an10 cd10 ct10), sl10⟩)
  (c10 : PySem.W.codeIn K cd10 "_law_right" = true) (k10 : PySem.W.keepIn K (.ref f10) = true)
  (a11 : PySem.W.nsIn K mainGlobals "law" = some (some (.ref f11)))
  (l11 : K.lookup f11 = some ⟨oc11, od11, .func (PySem.W.fnOf "law" "law" (defArgs s_law) (defBody s_law) (defScope s_law) .none kV11 dc11 pm11 an11 cd11 ct11), sl11⟩)
  (c11 : PySem.W.codeIn K cd11 "law" = true) (k11 : PySem.W.keepIn K (.ref f11) = true)
  (z_isinstance : PySem.W.nsIn K mainGlobals "isinstance" = some none)
  (z_bool : PySem.W.nsIn K mainGlobals "bool" = some none)
  (z_int : PySem.W.nsIn K mainGlobals "int" = some none)
  (z_len : PySem.W.nsIn K mainGlobals "len" = some none)
  (z_type : PySem.W.nsIn K mainGlobals "type" = some none)
  (z_list : PySem.W.nsIn K mainGlobals "list" = some none)
  (z_all : PySem.W.nsIn K mainGlobals "all" = some none)
  (z_max : PySem.W.nsIn K mainGlobals "max" = some none)
  (z_repr : PySem.W.nsIn K mainGlobals "repr" = some none)
  (z_enumerate : PySem.W.nsIn K mainGlobals "enumerate" = some none)
  (z_range : PySem.W.nsIn K mainGlobals "range" = some none)
  {t_MOST_HEIGHT : Tok} (c_MOST_HEIGHT : PySem.W.nsIn K mainGlobals "MOST_HEIGHT" = some (some (.int (1000000000000000000000000000000) t_MOST_HEIGHT)))
  {t_MOST_COLUMNS : Tok} (c_MOST_COLUMNS : PySem.W.nsIn K mainGlobals "MOST_COLUMNS" = some (some (.int (30) t_MOST_COLUMNS)))
  {t_MOST_CARDS : Tok} (c_MOST_CARDS : PySem.W.nsIn K mainGlobals "MOST_CARDS" = some (some (.int (200) t_MOST_CARDS)))
  (gg_Wall : PySem.W.nsIn K mainGlobals "Wall" = some (some (.ref C_Wall)))
  (gg_RightWall : PySem.W.nsIn K mainGlobals "RightWall" = some (some (.ref C_RightWall)))
  (gg_GapWall : PySem.W.nsIn K mainGlobals "GapWall" = some (some (.ref C_GapWall)))
  (gg_GapRightWall : PySem.W.nsIn K mainGlobals "GapRightWall" = some (some (.ref C_GapRightWall)))
  (ca_Wall : PySem.W.plainGet K C_Wall Str.empty = true)
  (cb_Wall : PySem.W.hasDictIn K C_Wall = true)
  (cc_Wall : PySem.W.plainOver K C_Wall = true)
  (cd_Wall : PySem.W.findIn K (.ref C_Wall) "__setattr__" = some (some (.builtin "object.__setattr__")))
  (ra_Wall : PySem.W.readsIn K C_Wall (.type "type") = true)
  (rb_Wall : PySem.W.specialIn K (.ref C_Wall) "__getattribute__" = some (some (.builtin "type.__getattribute__")))
  (ma_Wall : PySem.W.makesIn K C_Wall = true)
  (mb_Wall : PySem.W.findIn K (.ref C_Wall) "__init__" = some (some (.ref fi_Wall)))
  (mc_Wall : PySem.W.isFn K (.ref fi_Wall) = true)
  (md_Wall : PySem.W.keepIn K (.ref C_Wall) = true)
  (cv_Wall : PySem.W.findCls K (.ref C_Wall) (.type "type") "MOST" = some (.val (.int 200 tm_Wall)))
  (sa_Wall : PySem.W.findCls K (.ref C_Wall) (.type "type") "is_height" = some (.get (.builtin "staticmethod.__get__") (.ref p_Wall) .none (.ref C_Wall)))
  (sb_Wall : PySem.W.recIn K p_Wall "staticmethod" = some (.ref h_Wall :: rs_Wall))
  (sc_Wall : PySem.W.isClsIn K C_Wall = true)
  (sd_Wall : PySem.W.findIn K (.ref C_Wall) "is_height" = some (some (.ref p_Wall)))
  (se_Wall : PySem.W.typeIn K (.ref p_Wall) = some (.type "staticmethod"))
  (sf_Wall : PySem.W.specialIn K (.ref p_Wall) "__get__" = some (some (.builtin "staticmethod.__get__")))
  (sg_Wall : PySem.W.takesIn K (.ref p_Wall) = some false)
  (lh_Wall : K.lookup h_Wall = some ⟨och_Wall, odh_Wall, .func (PySem.W.fnOf "is_height" "Wall.is_height" (defArgs s_Wall_is_height) (defBody s_Wall_is_height) (defScope s_Wall_is_height) .none kVh_Wall dch_Wall pmh_Wall anh_Wall cdh_Wall cth_Wall), slh_Wall⟩)
  (ch_Wall : PySem.W.codeIn K cdh_Wall "Wall.is_height" = true)
  (kh_Wall : PySem.W.keepIn K (.ref h_Wall) = true)
  (pawidth_Wall : PySem.W.findIn K (.ref C_Wall) "width" = some (some (.ref q_Wall)))
  (pbwidth_Wall : PySem.W.specialIn K (.ref q_Wall) "__get__" = some (some (.builtin "property.__get__")))
  (pcwidth_Wall : PySem.W.takesIn K (.ref q_Wall) = some true)
  (pdwidth_Wall : PySem.W.recIn K q_Wall "property" = some (.ref w_Wall :: rw_Wall))
  (lw_Wall : K.lookup w_Wall = some ⟨ocw_Wall, odw_Wall, .func (PySem.W.fnOf "width" "Wall.width" (defArgs s_Wall_width) (defBody s_Wall_width) (defScope s_Wall_width) .none kVw_Wall dcw_Wall pmw_Wall anw_Wall cdw_Wall ctw_Wall), slw_Wall⟩)
  (cw_Wall : PySem.W.codeIn K cdw_Wall "Wall.width" = true)
  (kw_Wall : PySem.W.keepIn K (.ref w_Wall) = true)
  (na_columns_Wall : PySem.W.findIn K (.ref C_Wall) "_columns" = some none)
  (na_right_Wall : PySem.W.findIn K (.ref C_Wall) "_right" = some none)
  (na_gap_Wall : PySem.W.findIn K (.ref C_Wall) "_gap" = some none)
  (na_cards_Wall : PySem.W.findIn K (.ref C_Wall) "_cards" = some none)
  (na_calls_Wall : PySem.W.findIn K (.ref C_Wall) "_calls" = some none)
  (ca_RightWall : PySem.W.plainGet K C_RightWall Str.empty = true)
  (cb_RightWall : PySem.W.hasDictIn K C_RightWall = true)
  (cc_RightWall : PySem.W.plainOver K C_RightWall = true)
  (cd_RightWall : PySem.W.findIn K (.ref C_RightWall) "__setattr__" = some (some (.builtin "object.__setattr__")))
  (ra_RightWall : PySem.W.readsIn K C_RightWall (.type "type") = true)
  (rb_RightWall : PySem.W.specialIn K (.ref C_RightWall) "__getattribute__" = some (some (.builtin "type.__getattribute__")))
  (ma_RightWall : PySem.W.makesIn K C_RightWall = true)
  (mb_RightWall : PySem.W.findIn K (.ref C_RightWall) "__init__" = some (some (.ref fi_RightWall)))
  (mc_RightWall : PySem.W.isFn K (.ref fi_RightWall) = true)
  (md_RightWall : PySem.W.keepIn K (.ref C_RightWall) = true)
  (cv_RightWall : PySem.W.findCls K (.ref C_RightWall) (.type "type") "MOST" = some (.val (.int 200 tm_RightWall)))
  (sa_RightWall : PySem.W.findCls K (.ref C_RightWall) (.type "type") "is_height" = some (.get (.builtin "staticmethod.__get__") (.ref p_RightWall) .none (.ref C_RightWall)))
  (sb_RightWall : PySem.W.recIn K p_RightWall "staticmethod" = some (.ref h_RightWall :: rs_RightWall))
  (sc_RightWall : PySem.W.isClsIn K C_RightWall = true)
  (sd_RightWall : PySem.W.findIn K (.ref C_RightWall) "is_height" = some (some (.ref p_RightWall)))
  (se_RightWall : PySem.W.typeIn K (.ref p_RightWall) = some (.type "staticmethod"))
  (sf_RightWall : PySem.W.specialIn K (.ref p_RightWall) "__get__" = some (some (.builtin "staticmethod.__get__")))
  (sg_RightWall : PySem.W.takesIn K (.ref p_RightWall) = some false)
  (lh_RightWall : K.lookup h_RightWall = some ⟨och_RightWall, odh_RightWall, .func (PySem.W.fnOf "is_height" "RightWall.is_height" (defArgs s_RightWall_is_height) (defBody s_RightWall_is_height) (defScope s_RightWall_is_height) .none kVh_RightWall dch_RightWall pmh_RightWall anh_RightWall cdh_RightWall cth_RightWall), slh_RightWall⟩)
  (ch_RightWall : PySem.W.codeIn K cdh_RightWall "RightWall.is_height" = true)
  (kh_RightWall : PySem.W.keepIn K (.ref h_RightWall) = true)
  (pawidth_RightWall : PySem.W.findIn K (.ref C_RightWall) "width" = some (some (.ref q_RightWall)))
  (pbwidth_RightWall : PySem.W.specialIn K (.ref q_RightWall) "__get__" = some (some (.builtin "property.__get__")))
  (pcwidth_RightWall : PySem.W.takesIn K (.ref q_RightWall) = some true)
  (pdwidth_RightWall : PySem.W.recIn K q_RightWall "property" = some (.ref w_RightWall :: rw_RightWall))
  (lw_RightWall : K.lookup w_RightWall = some ⟨ocw_RightWall, odw_RightWall, .func (PySem.W.fnOf "width" "RightWall.width" (defArgs s_RightWall_width) (defBody s_RightWall_width) (defScope s_RightWall_width) .none kVw_RightWall dcw_RightWall pmw_RightWall anw_RightWall cdw_RightWall ctw_RightWall), slw_RightWall⟩)
  (cw_RightWall : PySem.W.codeIn K cdw_RightWall "RightWall.width" = true)
  (kw_RightWall : PySem.W.keepIn K (.ref w_RightWall) = true)
  (na_columns_RightWall : PySem.W.findIn K (.ref C_RightWall) "_columns" = some none)
  (na_right_RightWall : PySem.W.findIn K (.ref C_RightWall) "_right" = some none)
  (na_gap_RightWall : PySem.W.findIn K (.ref C_RightWall) "_gap" = some none)
  (na_cards_RightWall : PySem.W.findIn K (.ref C_RightWall) "_cards" = some none)
  (na_calls_RightWall : PySem.W.findIn K (.ref C_RightWall) "_calls" = some none)
  (ca_GapWall : PySem.W.plainGet K C_GapWall Str.empty = true)
  (cb_GapWall : PySem.W.hasDictIn K C_GapWall = true)
  (cc_GapWall : PySem.W.plainOver K C_GapWall = true)
  (cd_GapWall : PySem.W.findIn K (.ref C_GapWall) "__setattr__" = some (some (.builtin "object.__setattr__")))
  (ra_GapWall : PySem.W.readsIn K C_GapWall (.type "type") = true)
  (rb_GapWall : PySem.W.specialIn K (.ref C_GapWall) "__getattribute__" = some (some (.builtin "type.__getattribute__")))
  (ma_GapWall : PySem.W.makesIn K C_GapWall = true)
  (mb_GapWall : PySem.W.findIn K (.ref C_GapWall) "__init__" = some (some (.ref fi_GapWall)))
  (mc_GapWall : PySem.W.isFn K (.ref fi_GapWall) = true)
  (md_GapWall : PySem.W.keepIn K (.ref C_GapWall) = true)
  (cv_GapWall : PySem.W.findCls K (.ref C_GapWall) (.type "type") "MOST" = some (.val (.int 200 tm_GapWall)))
  (sa_GapWall : PySem.W.findCls K (.ref C_GapWall) (.type "type") "is_height" = some (.get (.builtin "staticmethod.__get__") (.ref p_GapWall) .none (.ref C_GapWall)))
  (sb_GapWall : PySem.W.recIn K p_GapWall "staticmethod" = some (.ref h_GapWall :: rs_GapWall))
  (sc_GapWall : PySem.W.isClsIn K C_GapWall = true)
  (sd_GapWall : PySem.W.findIn K (.ref C_GapWall) "is_height" = some (some (.ref p_GapWall)))
  (se_GapWall : PySem.W.typeIn K (.ref p_GapWall) = some (.type "staticmethod"))
  (sf_GapWall : PySem.W.specialIn K (.ref p_GapWall) "__get__" = some (some (.builtin "staticmethod.__get__")))
  (sg_GapWall : PySem.W.takesIn K (.ref p_GapWall) = some false)
  (lh_GapWall : K.lookup h_GapWall = some ⟨och_GapWall, odh_GapWall, .func (PySem.W.fnOf "is_height" "GapWall.is_height" (defArgs s_GapWall_is_height) (defBody s_GapWall_is_height) (defScope s_GapWall_is_height) .none kVh_GapWall dch_GapWall pmh_GapWall anh_GapWall cdh_GapWall cth_GapWall), slh_GapWall⟩)
  (ch_GapWall : PySem.W.codeIn K cdh_GapWall "GapWall.is_height" = true)
  (kh_GapWall : PySem.W.keepIn K (.ref h_GapWall) = true)
  (pawidth_GapWall : PySem.W.findIn K (.ref C_GapWall) "width" = some (some (.ref q_GapWall)))
  (pbwidth_GapWall : PySem.W.specialIn K (.ref q_GapWall) "__get__" = some (some (.builtin "property.__get__")))
  (pcwidth_GapWall : PySem.W.takesIn K (.ref q_GapWall) = some true)
  (pdwidth_GapWall : PySem.W.recIn K q_GapWall "property" = some (.ref w_GapWall :: rw_GapWall))
  (lw_GapWall : K.lookup w_GapWall = some ⟨ocw_GapWall, odw_GapWall, .func (PySem.W.fnOf "width" "GapWall.width" (defArgs s_GapWall_width) (defBody s_GapWall_width) (defScope s_GapWall_width) .none kVw_GapWall dcw_GapWall pmw_GapWall anw_GapWall cdw_GapWall ctw_GapWall), slw_GapWall⟩)
  (cw_GapWall : PySem.W.codeIn K cdw_GapWall "GapWall.width" = true)
  (kw_GapWall : PySem.W.keepIn K (.ref w_GapWall) = true)
  (pagap_GapWall : PySem.W.findIn K (.ref C_GapWall) "gap" = some (some (.ref qg_GapWall)))
  (pbgap_GapWall : PySem.W.specialIn K (.ref qg_GapWall) "__get__" = some (some (.builtin "property.__get__")))
  (pcgap_GapWall : PySem.W.takesIn K (.ref qg_GapWall) = some true)
  (pdgap_GapWall : PySem.W.recIn K qg_GapWall "property" = some (.ref wg_GapWall :: rwg_GapWall))
  (lwg_GapWall : K.lookup wg_GapWall = some ⟨ocwg_GapWall, odwg_GapWall, .func (PySem.W.fnOf "gap" "GapWall.gap" (defArgs s_GapWall_gap) (defBody s_GapWall_gap) (defScope s_GapWall_gap) .none kVwg_GapWall dcwg_GapWall pmwg_GapWall anwg_GapWall cdwg_GapWall ctwg_GapWall), slwg_GapWall⟩)
  (cwg_GapWall : PySem.W.codeIn K cdwg_GapWall "GapWall.gap" = true)
  (kwg_GapWall : PySem.W.keepIn K (.ref wg_GapWall) = true)
  (na_columns_GapWall : PySem.W.findIn K (.ref C_GapWall) "_columns" = some none)
  (na_right_GapWall : PySem.W.findIn K (.ref C_GapWall) "_right" = some none)
  (na_gap_GapWall : PySem.W.findIn K (.ref C_GapWall) "_gap" = some none)
  (na_cards_GapWall : PySem.W.findIn K (.ref C_GapWall) "_cards" = some none)
  (na_calls_GapWall : PySem.W.findIn K (.ref C_GapWall) "_calls" = some none)
  (ca_GapRightWall : PySem.W.plainGet K C_GapRightWall Str.empty = true)
  (cb_GapRightWall : PySem.W.hasDictIn K C_GapRightWall = true)
  (cc_GapRightWall : PySem.W.plainOver K C_GapRightWall = true)
  (cd_GapRightWall : PySem.W.findIn K (.ref C_GapRightWall) "__setattr__" = some (some (.builtin "object.__setattr__")))
  (ra_GapRightWall : PySem.W.readsIn K C_GapRightWall (.type "type") = true)
  (rb_GapRightWall : PySem.W.specialIn K (.ref C_GapRightWall) "__getattribute__" = some (some (.builtin "type.__getattribute__")))
  (ma_GapRightWall : PySem.W.makesIn K C_GapRightWall = true)
  (mb_GapRightWall : PySem.W.findIn K (.ref C_GapRightWall) "__init__" = some (some (.ref fi_GapRightWall)))
  (mc_GapRightWall : PySem.W.isFn K (.ref fi_GapRightWall) = true)
  (md_GapRightWall : PySem.W.keepIn K (.ref C_GapRightWall) = true)
  (cv_GapRightWall : PySem.W.findCls K (.ref C_GapRightWall) (.type "type") "MOST" = some (.val (.int 200 tm_GapRightWall)))
  (sa_GapRightWall : PySem.W.findCls K (.ref C_GapRightWall) (.type "type") "is_height" = some (.get (.builtin "staticmethod.__get__") (.ref p_GapRightWall) .none (.ref C_GapRightWall)))
  (sb_GapRightWall : PySem.W.recIn K p_GapRightWall "staticmethod" = some (.ref h_GapRightWall :: rs_GapRightWall))
  (sc_GapRightWall : PySem.W.isClsIn K C_GapRightWall = true)
  (sd_GapRightWall : PySem.W.findIn K (.ref C_GapRightWall) "is_height" = some (some (.ref p_GapRightWall)))
  (se_GapRightWall : PySem.W.typeIn K (.ref p_GapRightWall) = some (.type "staticmethod"))
  (sf_GapRightWall : PySem.W.specialIn K (.ref p_GapRightWall) "__get__" = some (some (.builtin "staticmethod.__get__")))
  (sg_GapRightWall : PySem.W.takesIn K (.ref p_GapRightWall) = some false)
  (lh_GapRightWall : K.lookup h_GapRightWall = some ⟨och_GapRightWall, odh_GapRightWall, .func (PySem.W.fnOf "is_height" "GapRightWall.is_height" (defArgs s_GapRightWall_is_height) (defBody s_GapRightWall_is_height) (defScope s_GapRightWall_is_height) .none kVh_GapRightWall dch_GapRightWall pmh_GapRightWall anh_GapRightWall cdh_GapRightWall cth_GapRightWall), slh_GapRightWall⟩)
  (ch_GapRightWall : PySem.W.codeIn K cdh_GapRightWall "GapRightWall.is_height" = true)
  (kh_GapRightWall : PySem.W.keepIn K (.ref h_GapRightWall) = true)
  (pawidth_GapRightWall : PySem.W.findIn K (.ref C_GapRightWall) "width" = some (some (.ref q_GapRightWall)))
  (pbwidth_GapRightWall : PySem.W.specialIn K (.ref q_GapRightWall) "__get__" = some (some (.builtin "property.__get__")))
  (pcwidth_GapRightWall : PySem.W.takesIn K (.ref q_GapRightWall) = some true)
  (pdwidth_GapRightWall : PySem.W.recIn K q_GapRightWall "property" = some (.ref w_GapRightWall :: rw_GapRightWall))
  (lw_GapRightWall : K.lookup w_GapRightWall = some ⟨ocw_GapRightWall, odw_GapRightWall, .func (PySem.W.fnOf "width" "GapRightWall.width" (defArgs s_GapRightWall_width) (defBody s_GapRightWall_width) (defScope s_GapRightWall_width) .none kVw_GapRightWall dcw_GapRightWall pmw_GapRightWall anw_GapRightWall cdw_GapRightWall ctw_GapRightWall), slw_GapRightWall⟩)
  (cw_GapRightWall : PySem.W.codeIn K cdw_GapRightWall "GapRightWall.width" = true)
  (kw_GapRightWall : PySem.W.keepIn K (.ref w_GapRightWall) = true)
  (pagap_GapRightWall : PySem.W.findIn K (.ref C_GapRightWall) "gap" = some (some (.ref qg_GapRightWall)))
  (pbgap_GapRightWall : PySem.W.specialIn K (.ref qg_GapRightWall) "__get__" = some (some (.builtin "property.__get__")))
  (pcgap_GapRightWall : PySem.W.takesIn K (.ref qg_GapRightWall) = some true)
  (pdgap_GapRightWall : PySem.W.recIn K qg_GapRightWall "property" = some (.ref wg_GapRightWall :: rwg_GapRightWall))
  (lwg_GapRightWall : K.lookup wg_GapRightWall = some ⟨ocwg_GapRightWall, odwg_GapRightWall, .func (PySem.W.fnOf "gap" "GapRightWall.gap" (defArgs s_GapRightWall_gap) (defBody s_GapRightWall_gap) (defScope s_GapRightWall_gap) .none kVwg_GapRightWall dcwg_GapRightWall pmwg_GapRightWall anwg_GapRightWall cdwg_GapRightWall ctwg_GapRightWall), slwg_GapRightWall⟩)
  (cwg_GapRightWall : PySem.W.codeIn K cdwg_GapRightWall "GapRightWall.gap" = true)
  (kwg_GapRightWall : PySem.W.keepIn K (.ref wg_GapRightWall) = true)
  (na_columns_GapRightWall : PySem.W.findIn K (.ref C_GapRightWall) "_columns" = some none)
  (na_right_GapRightWall : PySem.W.findIn K (.ref C_GapRightWall) "_right" = some none)
  (na_gap_GapRightWall : PySem.W.findIn K (.ref C_GapRightWall) "_gap" = some none)
  (na_cards_GapRightWall : PySem.W.findIn K (.ref C_GapRightWall) "_cards" = some none)
  (na_calls_GapRightWall : PySem.W.findIn K (.ref C_GapRightWall) "_calls" = some none)
  (lfi_Wall : K.lookup fi_Wall = some ⟨ocfi_Wall, odfi_Wall, .func (PySem.W.fnOf "__init__" "Wall.__init__" (defArgs s_Wall_init) (defBody s_Wall_init) (defScope s_Wall_init) .none kVfi_Wall dcfi_Wall pmfi_Wall anfi_Wall cdfi_Wall ctfi_Wall), slfi_Wall⟩)
  (cfi_Wall : PySem.W.codeIn K cdfi_Wall "Wall.__init__" = true)
  (kfi_Wall : PySem.W.keepIn K (.ref fi_Wall) = true)
  (li_RightWall : K.lookup fi_RightWall = some ⟨ocRightWall, odRightWall, .func (PySem.W.ksFn "__init__" "RightWall.__init__" (defArgs s_RightWall_init) (defBody s_RightWall_init) (defScope s_RightWall_init) .none kVRightWall dcRightWall pmRightWall anRightWall (.ref cdaRightWall) ctRightWall ccRightWall), slRightWall⟩)
  (ci_RightWall : PySem.W.codeIn K (.ref cdaRightWall) "RightWall.__init__" = true)
  (lc_RightWall : K.lookup ccRightWall = some ⟨clRightWall, cldRightWall, .cell (some (.ref C_RightWall)), cslRightWall⟩)
  (ld_RightWall : K.lookup cdaRightWall = some ⟨cclRightWall, cddRightWall, .fields vsRightWall, ccsRightWall⟩)
  (lv_RightWall : vsRightWall[2]? = some (.str file0 tfRightWall))
  (lk_RightWall : PySem.W.clsIn K C_RightWall = some cDRightWall)
  (li_GapWall : K.lookup fi_GapWall = some ⟨ocGapWall, odGapWall, .func (PySem.W.ksFn "__init__" "GapWall.__init__" (defArgs s_GapWall_init) (defBody s_GapWall_init) (defScope s_GapWall_init) (.ref TDGapWall) kVGapWall dcGapWall pmGapWall anGapWall (.ref cdaGapWall) ctGapWall ccGapWall), slGapWall⟩)
  (ci_GapWall : PySem.W.codeIn K (.ref cdaGapWall) "GapWall.__init__" = true)
  (lc_GapWall : K.lookup ccGapWall = some ⟨clGapWall, cldGapWall, .cell (some (.ref C_GapWall)), cslGapWall⟩)
  (ld_GapWall : K.lookup cdaGapWall = some ⟨cclGapWall, cddGapWall, .fields vsGapWall, ccsGapWall⟩)
  (lv_GapWall : vsGapWall[2]? = some (.str file0 tfGapWall))
  (lk_GapWall : PySem.W.clsIn K C_GapWall = some cDGapWall)
  (lt_GapWall : K.lookup TDGapWall = some ⟨tcGapWall, tdGapWall, .seq #[tvGapWall] tnGapWall, tslGapWall⟩)
  (li_GapRightWall : K.lookup fi_GapRightWall = some ⟨ocGapRightWall, odGapRightWall, .func (PySem.W.ksFn "__init__" "GapRightWall.__init__" (defArgs s_GapRightWall_init) (defBody s_GapRightWall_init) (defScope s_GapRightWall_init) (.ref TDGapRightWall) kVGapRightWall dcGapRightWall pmGapRightWall anGapRightWall (.ref cdaGapRightWall) ctGapRightWall ccGapRightWall), slGapRightWall⟩)
  (ci_GapRightWall : PySem.W.codeIn K (.ref cdaGapRightWall) "GapRightWall.__init__" = true)
  (lc_GapRightWall : K.lookup ccGapRightWall = some ⟨clGapRightWall, cldGapRightWall, .cell (some (.ref C_GapRightWall)), cslGapRightWall⟩)
  (ld_GapRightWall : K.lookup cdaGapRightWall = some ⟨cclGapRightWall, cddGapRightWall, .fields vsGapRightWall, ccsGapRightWall⟩)
  (lv_GapRightWall : vsGapRightWall[2]? = some (.str file0 tfGapRightWall))
  (lk_GapRightWall : PySem.W.clsIn K C_GapRightWall = some cDGapRightWall)
  (lt_GapRightWall : K.lookup TDGapRightWall = some ⟨tcGapRightWall, tdGapRightWall, .seq #[tvGapRightWall] tnGapRightWall, tslGapRightWall⟩)
  (cMN : PySem.W.nsIn K mainGlobals "MOST_NUMBER" = some (some (.int (1000000000000000000000000000000) t_MOST_NUMBER)))
  (tp : PySem.W.nsIn K cStatics "thirdparty.any" = some none)
  (zsup : PySem.W.nsIn K mainGlobals "super" = some none)
  (ta_RightWall_RightWall : PySem.W.mroIn K C_RightWall (.ref C_RightWall) = some true)
  (tb_RightWall_RightWall : PySem.W.ks_superIn K C_RightWall C_RightWall "__init__" = some (some (.ref fi_Wall)))
  (tc_RightWall_RightWall : PySem.W.typeIn K (.ref fi_Wall) = some (.type "function"))
  (td_RightWall_RightWall : PySem.W.fnIn K fi_Wall = true)
  (ta_GapWall_GapWall : PySem.W.mroIn K C_GapWall (.ref C_GapWall) = some true)
  (tb_GapWall_GapWall : PySem.W.ks_superIn K C_GapWall C_GapWall "__init__" = some (some (.ref fi_Wall)))
  (tc_GapWall_GapWall : PySem.W.typeIn K (.ref fi_Wall) = some (.type "function"))
  (td_GapWall_GapWall : PySem.W.fnIn K fi_Wall = true)
  (ta_GapRightWall_GapRightWall : PySem.W.mroIn K C_GapRightWall (.ref C_GapRightWall) = some true)
  (tb_GapRightWall_GapRightWall : PySem.W.ks_superIn K C_GapRightWall C_GapRightWall "__init__" = some (some (.ref fi_GapWall)))
  (tc_GapRightWall_GapRightWall : PySem.W.typeIn K (.ref fi_GapWall) = some (.type "function"))
  (td_GapRightWall_GapRightWall : PySem.W.fnIn K fi_GapWall = true)
  (ta_GapRightWall_GapWall : PySem.W.mroIn K C_GapRightWall (.ref C_GapWall) = some true)
  (tb_GapRightWall_GapWall : PySem.W.ks_superIn K C_GapRightWall C_GapWall "__init__" = some (some (.ref fi_RightWall)))
  (tc_GapRightWall_GapWall : PySem.W.typeIn K (.ref fi_RightWall) = some (.type "function"))
  (td_GapRightWall_GapWall : PySem.W.fnIn K fi_RightWall = true)
  (ta_GapRightWall_RightWall : PySem.W.mroIn K C_GapRightWall (.ref C_RightWall) = some true)
  (tb_GapRightWall_RightWall : PySem.W.ks_superIn K C_GapRightWall C_RightWall "__init__" = some (some (.ref fi_Wall)))
  (tc_GapRightWall_RightWall : PySem.W.typeIn K (.ref fi_Wall) = some (.type "function"))
  (td_GapRightWall_RightWall : PySem.W.fnIn K fi_Wall = true)
  (hP : FileOk l.prog) :
    ∃ fd : FuncData, (∀ (s : Shared) (v : Value), BindsTo s fd ⟨[v], []⟩ [("script", v)]) ∧
      ∀ base : Heap, K.In base → base.Ns mainGlobals mg → FnG l.prog w K mg base CX0 8 fa fd ["script"] (spLaw K) := by
  have e := hfa.symm.trans (PySem.W.mg_of X G a11)
  cases e
  have F0 := fun_mk (st := s_is_integer_within) l0 c0 k0
  have b0 := F0.binds (ps := ["value", "least", "greatest"]) fun _ _ _ _ _ _ us hl => match us, hl with | [_, _, _], _ => rfl
  have F1 := fun_mk (st := s_is_list_of_integers) l1 c1 k1
  have b1 := F1.binds (ps := ["value", "fewest", "most", "least", "greatest"]) fun _ _ _ _ _ _ us hl => match us, hl with | [_, _, _, _, _], _ => rfl
  have F2 := fun_mk (st := s_is_one_height) l2 c2 k2
  have b2 := F2.binds (ps := ["value"]) fun _ _ _ _ _ _ us hl => match us, hl with | [_], _ => rfl
  have F3 := fun_mk (st := s_check_columns) l3 c3 k3
  have b3 := F3.binds (ps := ["columns"]) fun _ _ _ _ _ _ us hl => match us, hl with | [_], _ => rfl
  have F4 := fun_mk (st := s_check_number) l4 c4 k4
  have b4 := F4.binds (ps := ["number", "greatest"]) fun _ _ _ _ _ _ us hl => match us, hl with | [_, _], _ => rfl
  have F5 := fun_mk (st := s_is_start) l5 c5 k5
  have b5 := F5.binds (ps := ["value"]) fun _ _ _ _ _ _ us hl => match us, hl with | [_], _ => rfl
  have F6 := fun_mk (st := s_is_cards) l6 c6 k6
  have b6 := F6.binds (ps := ["value"]) fun _ _ _ _ _ _ us hl => match us, hl with | [_], _ => rfl
  have F7 := fun_mk (st := s_law_source) l7 c7 k7
  have b7 := F7.binds (ps := ["cell", "number"]) fun _ _ _ _ _ _ us hl => match us, hl with | [_, _], _ => rfl
  have F8 := fun_mk (st := s_law_draw) l8 c8 k8
  have b8 := F8.binds (ps := ["source", "count"]) fun _ _ _ _ _ _ us hl => match us, hl with | [_, _], _ => rfl
  have F9 := fun_mk (st := s_law_cells) l9 c9 k9
  have b9 := F9.binds (ps := ["script", "count"]) fun _ _ _ _ _ _ us hl => match us, hl with | [_, _], _ => rfl
  have F10 := fun_mk (st := s_law_right) l10 c10 k10
  have b10 := F10.binds (ps := ["thing"]) fun _ _ _ _ _ _ us hl => match us, hl with | [_], _ => rfl
  have F11 := fun_mk (st := s_law) l11 c11 k11
  have b11 := F11.binds (ps := ["script"]) fun _ _ _ _ _ _ us hl => match us, hl with | [_], _ => rfl
  exact ⟨_, fun s v => .of_eq rfl, fun base _ _ => ok_law hP (⟨f0, _, F0, b0, (PySem.W.mg_of X G a0), f1, _, F1, b1, (PySem.W.mg_of X G a1), f2, _, F2, b2, (PySem.W.mg_of X G a2), f3, _, F3, b3, (PySem.W.mg_of X G a3), f4, _, F4, b4, (PySem.W.mg_of X G a4), f5, _, F5, b5, (PySem.W.mg_of X G a5), f6, _, F6, b6, (PySem.W.mg_of X G a6), f7, _, F7, b7, (PySem.W.mg_of X G a7), f8, _, F8, b8, (PySem.W.mg_of X G a8), f9, _, F9, b9, (PySem.W.mg_of X G a9), f10, _, F10, b10, (PySem.W.mg_of X G a10), fa, _, F11, b11, (PySem.W.mg_of X G a11), (PySem.W.mg_none_of X G z_isinstance), (PySem.W.mg_none_of X G z_bool), (PySem.W.mg_none_of X G z_int), (PySem.W.mg_none_of X G z_len), (PySem.W.mg_none_of X G z_type), (PySem.W.mg_none_of X G z_list), (PySem.W.mg_none_of X G z_all), (PySem.W.mg_none_of X G z_max), (PySem.W.mg_none_of X G z_repr), (PySem.W.mg_none_of X G z_enumerate), (PySem.W.mg_none_of X G z_range), t_MOST_HEIGHT, (PySem.W.mg_of X G c_MOST_HEIGHT), t_MOST_COLUMNS, (PySem.W.mg_of X G c_MOST_COLUMNS), t_MOST_CARDS, (PySem.W.mg_of X G c_MOST_CARDS), C_Wall, (PySem.W.mg_of X G gg_Wall), C_RightWall, (PySem.W.mg_of X G gg_RightWall), C_GapWall, (PySem.W.mg_of X G gg_GapWall), C_GapRightWall, (PySem.W.mg_of X G gg_GapRightWall), ⟨ca_Wall, cb_Wall, cc_Wall, cd_Wall⟩, ⟨ra_Wall, rb_Wall⟩, fi_Wall, _, ⟨ma_Wall, mb_Wall, mc_Wall, md_Wall⟩, ⟨tm_Wall, cv_Wall, ⟨_, rfl⟩⟩, p_Wall, h_Wall, _, ⟨sa_Wall, ⟨_, sb_Wall⟩, kh_Wall⟩, ⟨ca_Wall, sc_Wall, sd_Wall, se_Wall, sf_Wall, sg_Wall, by decide +kernel, ⟨_, sb_Wall⟩, kh_Wall⟩, (fun_mk (st := s_Wall_is_height) lh_Wall ch_Wall kh_Wall), ((fun_mk (st := s_Wall_is_height) lh_Wall ch_Wall kh_Wall).binds (ps := ["value"]) fun _ _ _ _ _ _ us hl => match us, hl with | [_], _ => rfl), q_Wall, w_Wall, _, ⟨pawidth_Wall, pbwidth_Wall, pcwidth_Wall, ⟨_, pdwidth_Wall⟩⟩, (fun_mk (st := s_Wall_width) lw_Wall cw_Wall kw_Wall), ((fun_mk (st := s_Wall_width) lw_Wall cw_Wall kw_Wall).binds (ps := ["self"]) fun _ _ _ _ _ _ us hl => match us, hl with | [_], _ => rfl), na_columns_Wall, na_right_Wall, na_gap_Wall, na_cards_Wall, na_calls_Wall, ⟨ca_RightWall, cb_RightWall, cc_RightWall, cd_RightWall⟩, ⟨ra_RightWall, rb_RightWall⟩, fi_RightWall, _, ⟨ma_RightWall, mb_RightWall, mc_RightWall, md_RightWall⟩, ⟨tm_RightWall, cv_RightWall, ⟨_, rfl⟩⟩, p_RightWall, h_RightWall, _, ⟨sa_RightWall, ⟨_, sb_RightWall⟩, kh_RightWall⟩, ⟨ca_RightWall, sc_RightWall, sd_RightWall, se_RightWall, sf_RightWall, sg_RightWall, by decide +kernel, ⟨_, sb_RightWall⟩, kh_RightWall⟩, (fun_mk (st := s_RightWall_is_height) lh_RightWall ch_RightWall kh_RightWall), ((fun_mk (st := s_RightWall_is_height) lh_RightWall ch_RightWall kh_RightWall).binds (ps := ["value"]) fun _ _ _ _ _ _ us hl => match us, hl with | [_], _ => rfl), q_RightWall, w_RightWall, _, ⟨pawidth_RightWall, pbwidth_RightWall, pcwidth_RightWall, ⟨_, pdwidth_RightWall⟩⟩, (fun_mk (st := s_RightWall_width) lw_RightWall cw_RightWall kw_RightWall), ((fun_mk (st := s_RightWall_width) lw_RightWall cw_RightWall kw_RightWall).binds (ps := ["self"]) fun _ _ _ _ _ _ us hl => match us, hl with | [_], _ => rfl), na_columns_RightWall, na_right_RightWall, na_gap_RightWall, na_cards_RightWall, na_calls_RightWall, ⟨ca_GapWall, cb_GapWall, cc_GapWall, cd_GapWall⟩, ⟨ra_GapWall, rb_GapWall⟩, fi_GapWall, _, ⟨ma_GapWall, mb_GapWall, mc_GapWall, md_GapWall⟩, ⟨tm_GapWall, cv_GapWall, ⟨_, rfl⟩⟩, p_GapWall, h_GapWall, _, ⟨sa_GapWall, ⟨_, sb_GapWall⟩, kh_GapWall⟩, ⟨ca_GapWall, sc_GapWall, sd_GapWall, se_GapWall, sf_GapWall, sg_GapWall, by decide +kernel, ⟨_, sb_GapWall⟩, kh_GapWall⟩, (fun_mk (st := s_GapWall_is_height) lh_GapWall ch_GapWall kh_GapWall), ((fun_mk (st := s_GapWall_is_height) lh_GapWall ch_GapWall kh_GapWall).binds (ps := ["value"]) fun _ _ _ _ _ _ us hl => match us, hl with | [_], _ => rfl), q_GapWall, w_GapWall, _, ⟨pawidth_GapWall, pbwidth_GapWall, pcwidth_GapWall, ⟨_, pdwidth_GapWall⟩⟩, (fun_mk (st := s_GapWall_width) lw_GapWall cw_GapWall kw_GapWall), ((fun_mk (st := s_GapWall_width) lw_GapWall cw_GapWall kw_GapWall).binds (ps := ["self"]) fun _ _ _ _ _ _ us hl => match us, hl with | [_], _ => rfl), qg_GapWall, wg_GapWall, _, ⟨pagap_GapWall, pbgap_GapWall, pcgap_GapWall, ⟨_, pdgap_GapWall⟩⟩, (fun_mk (st := s_GapWall_gap) lwg_GapWall cwg_GapWall kwg_GapWall), ((fun_mk (st := s_GapWall_gap) lwg_GapWall cwg_GapWall kwg_GapWall).binds (ps := ["self"]) fun _ _ _ _ _ _ us hl => match us, hl with | [_], _ => rfl), na_columns_GapWall, na_right_GapWall, na_gap_GapWall, na_cards_GapWall, na_calls_GapWall, ⟨ca_GapRightWall, cb_GapRightWall, cc_GapRightWall, cd_GapRightWall⟩, ⟨ra_GapRightWall, rb_GapRightWall⟩, fi_GapRightWall, _, ⟨ma_GapRightWall, mb_GapRightWall, mc_GapRightWall, md_GapRightWall⟩, ⟨tm_GapRightWall, cv_GapRightWall, ⟨_, rfl⟩⟩, p_GapRightWall, h_GapRightWall, _, ⟨sa_GapRightWall, ⟨_, sb_GapRightWall⟩, kh_GapRightWall⟩, ⟨ca_GapRightWall, sc_GapRightWall, sd_GapRightWall, se_GapRightWall, sf_GapRightWall, sg_GapRightWall, by decide +kernel, ⟨_, sb_GapRightWall⟩, kh_GapRightWall⟩, (fun_mk (st := s_GapRightWall_is_height) lh_GapRightWall ch_GapRightWall kh_GapRightWall), ((fun_mk (st := s_GapRightWall_is_height) lh_GapRightWall ch_GapRightWall kh_GapRightWall).binds (ps := ["value"]) fun _ _ _ _ _ _ us hl => match us, hl with | [_], _ => rfl), q_GapRightWall, w_GapRightWall, _, ⟨pawidth_GapRightWall, pbwidth_GapRightWall, pcwidth_GapRightWall, ⟨_, pdwidth_GapRightWall⟩⟩, (fun_mk (st := s_GapRightWall_width) lw_GapRightWall cw_GapRightWall kw_GapRightWall), ((fun_mk (st := s_GapRightWall_width) lw_GapRightWall cw_GapRightWall kw_GapRightWall).binds (ps := ["self"]) fun _ _ _ _ _ _ us hl => match us, hl with | [_], _ => rfl), qg_GapRightWall, wg_GapRightWall, _, ⟨pagap_GapRightWall, pbgap_GapRightWall, pcgap_GapRightWall, ⟨_, pdgap_GapRightWall⟩⟩, (fun_mk (st := s_GapRightWall_gap) lwg_GapRightWall cwg_GapRightWall kwg_GapRightWall), ((fun_mk (st := s_GapRightWall_gap) lwg_GapRightWall cwg_GapRightWall kwg_GapRightWall).binds (ps := ["self"]) fun _ _ _ _ _ _ us hl => match us, hl with | [_], _ => rfl), na_columns_GapRightWall, na_right_GapRightWall, na_gap_GapRightWall, na_cards_GapRightWall, na_calls_GapRightWall, (fun_mk (st := s_Wall_init) lfi_Wall cfi_Wall kfi_Wall), ((fun_mk (st := s_Wall_init) lfi_Wall cfi_Wall kfi_Wall).binds (ps := ["self", "columns"]) fun _ _ _ _ _ _ us hl => match us, hl with | [_, _], _ => rfl), ⟨fun s us ws X hu hw => match us, ws, hu, hw with | [_], [_], _, _ => .of_eq rfl, rel_g2⟩, ⟨⟨ccRightWall, cdaRightWall, _, _, _, _, _, _, _, _, _, _, _, _, _, _, _, _, _, rfl, li_RightWall, ci_RightWall, lc_RightWall, ld_RightWall, lv_RightWall, .inl rfl⟩, by rw [lk_RightWall]; rfl⟩, Binds.all (fun us hl => match us, hl with | [_, _], _ => rfl), ⟨fun s us ws X hu hw => match us, ws, hu, hw with | [_], [_], _, _ => .of_eq rfl, rel_g2⟩, ⟨⟨ccGapWall, cdaGapWall, _, _, _, _, _, _, _, _, _, _, _, _, _, _, _, _, _, rfl, li_GapWall, ci_GapWall, lc_GapWall, ld_GapWall, lv_GapWall, .inr ⟨_, _, _, _, rfl, lt_GapWall, rfl⟩⟩, by rw [lk_GapWall]; rfl⟩, fun s us X hl => match us, hl with | [_, _, _], _ => BindsTo.of_looks fun M => looks_dflt X lt_GapWall rfl rfl rfl, ⟨fun s us ws X hu hw => match us, ws, hu, hw with | [_], [_, _], _, _ => BindsTo.of_looks fun M => looks_dflt X lt_GapWall rfl rfl rfl, rel_g3b⟩, ⟨⟨ccGapRightWall, cdaGapRightWall, _, _, _, _, _, _, _, _, _, _, _, _, _, _, _, _, _, rfl, li_GapRightWall, ci_GapRightWall, lc_GapRightWall, ld_GapRightWall, lv_GapRightWall, .inr ⟨_, _, _, _, rfl, lt_GapRightWall, rfl⟩⟩, by rw [lk_GapRightWall]; rfl⟩, fun s us X hl => match us, hl with | [_, _, _], _ => BindsTo.of_looks fun M => looks_dflt X lt_GapRightWall rfl rfl rfl, ⟨fun s us ws X hu hw => match us, ws, hu, hw with | [_], [_, _], _, _ => BindsTo.of_looks fun M => looks_dflt X lt_GapRightWall rfl rfl rfl, rel_g3a⟩, t_MOST_NUMBER, (PySem.W.mg_of X G cMN), (PySem.W.mg_none_of X G zsup), ⟨ta_RightWall_RightWall, tb_RightWall_RightWall, tc_RightWall_RightWall, td_RightWall_RightWall, tp, by decide +kernel⟩, ⟨ta_GapWall_GapWall, tb_GapWall_GapWall, tc_GapWall_GapWall, td_GapWall_GapWall, tp, by decide +kernel⟩, ⟨ta_GapRightWall_GapRightWall, tb_GapRightWall_GapRightWall, tc_GapRightWall_GapRightWall, td_GapRightWall_GapRightWall, tp, by decide +kernel⟩, ⟨ta_GapRightWall_GapWall, tb_GapRightWall_GapWall, tc_GapRightWall_GapWall, td_GapRightWall_GapWall, tp, by decide +kernel⟩, ⟨ta_GapRightWall_RightWall, tb_GapRightWall_RightWall, tc_GapRightWall_RightWall, td_GapRightWall_RightWall, tp, by decide +kernel⟩⟩ : Txt K mg)⟩
end K15
open PySem PySem.W PyProof.Rows
set_option maxHeartbeats 0 in
theorem PySem.Challenge.cw_lowcolumns_k15_heights_recognized_holds : PySem.Challenge.rw_lowcolumns_k15_heights_recognized.Holds := by
  w_on; o_law; k_headL; (case hw => w_witness2)
  k_fill
  refine Lc.walkG (l := PySem.Challenge.rw_lowcolumns_k15_heights_recognized) (n := 63) (k := 8) (x := "script") (CX := fun _ => L2.CX0) (sp := fun w => K15.spLaw _) rfl (by decide) rfl ⟨rfl, by decide, by decide⟩ (fun w h Y => PySem.W.kIn_of Y) ?F (fun _ _ a ns hl hO hS => ⟨a, ns, rfl, Lc.scr_of hO hS, hl, fun _ => rfl⟩) (fun _ _ _ _ _ h => h)
  case F =>
    intro w mg fa h KX G hmg
    refine' K15.all_mk KX G hmg ?a0 ?l0 ?c0 ?k0 ?a1 ?l1 ?c1 ?k1 ?a2 ?l2 ?c2 ?k2 ?a3 ?l3 ?c3 ?k3 ?a4 ?l4 ?c4 ?k4 ?a5 ?l5 ?c5 ?k5 ?a6 ?l6 ?c6 ?k6 ?a7 ?l7 ?c7 ?k7 ?a8 ?l8 ?c8 ?k8 ?a9 ?l9 ?c9 ?k9 ?a10 ?l10 ?c10 ?k10 ?a11 ?l11 ?c11 ?k11 ?z_isinstance ?z_bool ?z_int ?z_len ?z_type ?z_list ?z_all ?z_max ?z_repr ?z_enumerate ?z_range ?c_MOST_HEIGHT ?c_MOST_COLUMNS ?c_MOST_CARDS ?gg_Wall ?gg_RightWall ?gg_GapWall ?gg_GapRightWall ?ca_Wall ?cb_Wall ?cc_Wall ?cd_Wall ?ra_Wall ?rb_Wall ?ma_Wall ?mb_Wall ?mc_Wall ?md_Wall ?cv_Wall ?sa_Wall ?sb_Wall ?sc_Wall ?sd_Wall ?se_Wall ?sf_Wall ?sg_Wall ?lh_Wall ?ch_Wall ?kh_Wall ?pawidth_Wall ?pbwidth_Wall ?pcwidth_Wall ?pdwidth_Wall ?lw_Wall ?cw_Wall ?kw_Wall ?na_columns_Wall ?na_right_Wall ?na_gap_Wall ?na_cards_Wall ?na_calls_Wall ?ca_RightWall ?cb_RightWall ?cc_RightWall ?cd_RightWall ?ra_RightWall ?rb_RightWall ?ma_RightWall ?mb_RightWall ?mc_RightWall ?md_RightWall ?cv_RightWall ?sa_RightWall ?sb_RightWall ?sc_RightWall ?sd_RightWall ?se_RightWall ?sf_RightWall ?sg_RightWall ?lh_RightWall ?ch_RightWall ?kh_RightWall ?pawidth_RightWall ?pbwidth_RightWall ?pcwidth_RightWall ?pdwidth_RightWall ?lw_RightWall ?cw_RightWall ?kw_RightWall ?na_columns_RightWall ?na_right_RightWall ?na_gap_RightWall ?na_cards_RightWall ?na_calls_RightWall ?ca_GapWall ?cb_GapWall ?cc_GapWall ?cd_GapWall ?ra_GapWall ?rb_GapWall ?ma_GapWall ?mb_GapWall ?mc_GapWall ?md_GapWall ?cv_GapWall ?sa_GapWall ?sb_GapWall ?sc_GapWall ?sd_GapWall ?se_GapWall ?sf_GapWall ?sg_GapWall ?lh_GapWall ?ch_GapWall ?kh_GapWall ?pawidth_GapWall ?pbwidth_GapWall ?pcwidth_GapWall ?pdwidth_GapWall ?lw_GapWall ?cw_GapWall ?kw_GapWall ?pagap_GapWall ?pbgap_GapWall ?pcgap_GapWall ?pdgap_GapWall ?lwg_GapWall ?cwg_GapWall ?kwg_GapWall ?na_columns_GapWall ?na_right_GapWall ?na_gap_GapWall ?na_cards_GapWall ?na_calls_GapWall ?ca_GapRightWall ?cb_GapRightWall ?cc_GapRightWall ?cd_GapRightWall ?ra_GapRightWall ?rb_GapRightWall ?ma_GapRightWall ?mb_GapRightWall ?mc_GapRightWall ?md_GapRightWall ?cv_GapRightWall ?sa_GapRightWall ?sb_GapRightWall ?sc_GapRightWall ?sd_GapRightWall ?se_GapRightWall ?sf_GapRightWall ?sg_GapRightWall ?lh_GapRightWall ?ch_GapRightWall ?kh_GapRightWall ?pawidth_GapRightWall ?pbwidth_GapRightWall ?pcwidth_GapRightWall ?pdwidth_GapRightWall ?lw_GapRightWall ?cw_GapRightWall ?kw_GapRightWall ?pagap_GapRightWall ?pbgap_GapRightWall ?pcgap_GapRightWall ?pdgap_GapRightWall ?lwg_GapRightWall ?cwg_GapRightWall ?kwg_GapRightWall ?na_columns_GapRightWall ?na_right_GapRightWall ?na_gap_GapRightWall ?na_cards_GapRightWall ?na_calls_GapRightWall ?lfi_Wall ?cfi_Wall ?kfi_Wall ?li_RightWall ?ci_RightWall ?lc_RightWall ?ld_RightWall ?lv_RightWall ?lk_RightWall ?li_GapWall ?ci_GapWall ?lc_GapWall ?ld_GapWall ?lv_GapWall ?lk_GapWall ?lt_GapWall ?li_GapRightWall ?ci_GapRightWall ?lc_GapRightWall ?ld_GapRightWall ?lv_GapRightWall ?lk_GapRightWall ?lt_GapRightWall ?cMN ?tp ?zsup ?ta_RightWall_RightWall ?tb_RightWall_RightWall ?tc_RightWall_RightWall ?td_RightWall_RightWall ?ta_GapWall_GapWall ?tb_GapWall_GapWall ?tc_GapWall_GapWall ?td_GapWall_GapWall ?ta_GapRightWall_GapRightWall ?tb_GapRightWall_GapRightWall ?tc_GapRightWall_GapRightWall ?td_GapRightWall_GapRightWall ?ta_GapRightWall_GapWall ?tb_GapRightWall_GapWall ?tc_GapRightWall_GapWall ?td_GapRightWall_GapWall ?ta_GapRightWall_RightWall ?tb_GapRightWall_RightWall ?tc_GapRightWall_RightWall ?td_GapRightWall_RightWall ?hP
    (case a0 => k_is); (case l0 => k_is); (case c0 => k_is); (case k0 => k_is); (case a1 => k_is); (case l1 => k_is); (case c1 => k_is); (case k1 => k_is); (case a2 => k_is); (case l2 => k_is); (case c2 => k_is); (case k2 => k_is); (case a3 => k_is); (case l3 => k_is); (case c3 => k_is); (case k3 => k_is); (case a4 => k_is); (case l4 => k_is); (case c4 => k_is); (case k4 => k_is); (case a5 => k_is); (case l5 => k_is); (case c5 => k_is); (case k5 => k_is); (case a6 => k_is); (case l6 => k_is); (case c6 => k_is); (case k6 => k_is); (case a7 => k_is); (case l7 => k_is); (case c7 => k_is); (case k7 => k_is); (case a8 => k_is); (case l8 => k_is); (case c8 => k_is); (case k8 => k_is); (case a9 => k_is); (case l9 => k_is); (case c9 => k_is); (case k9 => k_is); (case a10 => k_is); (case l10 => k_is); (case c10 => k_is); (case k10 => k_is); (case a11 => k_is); (case l11 => k_is); (case c11 => k_is); (case k11 => k_is); (case z_isinstance => k_is); (case z_bool => k_is); (case z_int => k_is); (case z_len => k_is); (case z_type => k_is); (case z_list => k_is); (case z_all => k_is); (case z_max => k_is); (case z_repr => k_is); (case z_enumerate => k_is); (case z_range => k_is); (case c_MOST_HEIGHT => k_is); (case c_MOST_COLUMNS => k_is); (case c_MOST_CARDS => k_is); (case gg_Wall => k_is); (case gg_RightWall => k_is); (case gg_GapWall => k_is); (case gg_GapRightWall => k_is); (case ca_Wall => k_is); (case cb_Wall => k_is); (case cc_Wall => k_is); (case cd_Wall => k_is); (case ra_Wall => k_is); (case rb_Wall => k_is); (case ma_Wall => k_is); (case mb_Wall => k_is); (case mc_Wall => k_is); (case md_Wall => k_is); (case cv_Wall => k_is); (case sa_Wall => k_is); (case sb_Wall => k_is); (case sc_Wall => k_is); (case sd_Wall => k_is); (case se_Wall => k_is); (case sf_Wall => k_is); (case sg_Wall => k_is); (case lh_Wall => k_is); (case ch_Wall => k_is); (case kh_Wall => k_is); (case pawidth_Wall => k_is); (case pbwidth_Wall => k_is); (case pcwidth_Wall => k_is); (case pdwidth_Wall => k_is); (case lw_Wall => k_is); (case cw_Wall => k_is); (case kw_Wall => k_is); (case na_columns_Wall => k_is); (case na_right_Wall => k_is); (case na_gap_Wall => k_is); (case na_cards_Wall => k_is); (case na_calls_Wall => k_is); (case ca_RightWall => k_is); (case cb_RightWall => k_is); (case cc_RightWall => k_is); (case cd_RightWall => k_is); (case ra_RightWall => k_is); (case rb_RightWall => k_is); (case ma_RightWall => k_is); (case mb_RightWall => k_is); (case mc_RightWall => k_is); (case md_RightWall => k_is); (case cv_RightWall => k_is); (case sa_RightWall => k_is); (case sb_RightWall => k_is); (case sc_RightWall => k_is); (case sd_RightWall => k_is); (case se_RightWall => k_is); (case sf_RightWall => k_is); (case sg_RightWall => k_is); (case lh_RightWall => k_is); (case ch_RightWall => k_is); (case kh_RightWall => k_is); (case pawidth_RightWall => k_is); (case pbwidth_RightWall => k_is); (case pcwidth_RightWall => k_is); (case pdwidth_RightWall => k_is); (case lw_RightWall => k_is); (case cw_RightWall => k_is); (case kw_RightWall => k_is); (case na_columns_RightWall => k_is); (case na_right_RightWall => k_is); (case na_gap_RightWall => k_is); (case na_cards_RightWall => k_is); (case na_calls_RightWall => k_is); (case ca_GapWall => k_is); (case cb_GapWall => k_is); (case cc_GapWall => k_is); (case cd_GapWall => k_is); (case ra_GapWall => k_is); (case rb_GapWall => k_is); (case ma_GapWall => k_is); (case mb_GapWall => k_is); (case mc_GapWall => k_is); (case md_GapWall => k_is); (case cv_GapWall => k_is); (case sa_GapWall => k_is); (case sb_GapWall => k_is); (case sc_GapWall => k_is); (case sd_GapWall => k_is); (case se_GapWall => k_is); (case sf_GapWall => k_is); (case sg_GapWall => k_is); (case lh_GapWall => k_is); (case ch_GapWall => k_is); (case kh_GapWall => k_is); (case pawidth_GapWall => k_is); (case pbwidth_GapWall => k_is); (case pcwidth_GapWall => k_is); (case pdwidth_GapWall => k_is); (case lw_GapWall => k_is); (case cw_GapWall => k_is); (case kw_GapWall => k_is); (case pagap_GapWall => k_is); (case pbgap_GapWall => k_is); (case pcgap_GapWall => k_is); (case pdgap_GapWall => k_is); (case lwg_GapWall => k_is); (case cwg_GapWall => k_is); (case kwg_GapWall => k_is); (case na_columns_GapWall => k_is); (case na_right_GapWall => k_is); (case na_gap_GapWall => k_is); (case na_cards_GapWall => k_is); (case na_calls_GapWall => k_is); (case ca_GapRightWall => k_is); (case cb_GapRightWall => k_is); (case cc_GapRightWall => k_is); (case cd_GapRightWall => k_is); (case ra_GapRightWall => k_is); (case rb_GapRightWall => k_is); (case ma_GapRightWall => k_is); (case mb_GapRightWall => k_is); (case mc_GapRightWall => k_is); (case md_GapRightWall => k_is); (case cv_GapRightWall => k_is); (case sa_GapRightWall => k_is); (case sb_GapRightWall => k_is); (case sc_GapRightWall => k_is); (case sd_GapRightWall => k_is); (case se_GapRightWall => k_is); (case sf_GapRightWall => k_is); (case sg_GapRightWall => k_is); (case lh_GapRightWall => k_is); (case ch_GapRightWall => k_is); (case kh_GapRightWall => k_is); (case pawidth_GapRightWall => k_is); (case pbwidth_GapRightWall => k_is); (case pcwidth_GapRightWall => k_is); (case pdwidth_GapRightWall => k_is); (case lw_GapRightWall => k_is); (case cw_GapRightWall => k_is); (case kw_GapRightWall => k_is); (case pagap_GapRightWall => k_is); (case pbgap_GapRightWall => k_is); (case pcgap_GapRightWall => k_is); (case pdgap_GapRightWall => k_is); (case lwg_GapRightWall => k_is); (case cwg_GapRightWall => k_is); (case kwg_GapRightWall => k_is); (case na_columns_GapRightWall => k_is); (case na_right_GapRightWall => k_is); (case na_gap_GapRightWall => k_is); (case na_cards_GapRightWall => k_is); (case na_calls_GapRightWall => k_is); (case lfi_Wall => k_is); (case cfi_Wall => k_is); (case kfi_Wall => k_is); (case li_RightWall => k_is); (case ci_RightWall => k_is); (case lc_RightWall => k_is); (case ld_RightWall => k_is); (case lv_RightWall => rfl); (case lk_RightWall => k_is); (case li_GapWall => k_is); (case ci_GapWall => k_is); (case lc_GapWall => k_is); (case ld_GapWall => k_is); (case lv_GapWall => rfl); (case lk_GapWall => k_is); (case lt_GapWall => k_is); (case li_GapRightWall => k_is); (case ci_GapRightWall => k_is); (case lc_GapRightWall => k_is); (case ld_GapRightWall => k_is); (case lv_GapRightWall => rfl); (case lk_GapRightWall => k_is); (case lt_GapRightWall => k_is); (case cMN => k_is); (case tp => k_is); (case zsup => k_is); (case ta_RightWall_RightWall => k_is); (case tb_RightWall_RightWall => ks_is); (case tc_RightWall_RightWall => k_is); (case td_RightWall_RightWall => k_is); (case ta_GapWall_GapWall => k_is); (case tb_GapWall_GapWall => ks_is); (case tc_GapWall_GapWall => k_is); (case td_GapWall_GapWall => k_is); (case ta_GapRightWall_GapRightWall => k_is); (case tb_GapRightWall_GapRightWall => ks_is); (case tc_GapRightWall_GapRightWall => k_is); (case td_GapRightWall_GapRightWall => k_is); (case ta_GapRightWall_GapWall => k_is); (case tb_GapRightWall_GapWall => ks_is); (case tc_GapRightWall_GapWall => k_is); (case td_GapRightWall_GapWall => k_is); (case ta_GapRightWall_RightWall => k_is); (case tb_GapRightWall_RightWall => ks_is); (case tc_GapRightWall_RightWall => k_is); (case td_GapRightWall_RightWall => k_is); (case hP => exact ⟨rfl, rfl⟩)

