import PyProof.Rows.All
import Wide.All
import OpenK.AllK
import Wide.FinOn
import HandS.ForMost
import HandS.SortInts
import HandS.Wide
import HandS.IsInst
import HandS.Style
import HandS.Flow
import HandS.Zip
import KE.KTypeOf
import PyProof.TypeEq
import PyProof.ReprBulk
import PyProof.ReprRoads
import PyProof.Rows.RuleB_pow
import HandS.Iter
import KE.DataMinMax
import HandS.Defaults
import HandS.Conv
import HandS.NoneIn
import HandS.SortKw
import PyProof.WalkInts
import HandS.Walk
import HandS.RevRange
import HandS.Gcd
import PyProof.CallFns
import HandS.More
import PyProof.Rows.SeqMore
import PyProof.StrLaws
import HandS.ExcIs
import HandS.ExcOwn
import HandS.ExcValue
import HandS.WordsExc
import HandS.TryOnly
import HandS.TryMany
import HandS.ClsMeth
import HandS.Property
import HandS.Nested
import HandS.MakeKw
import KE.KSuper
import KE.OsRunLaw
import HandS.MakeKwOnly
import HandS.Words
import HandS.Star
import HandS.MethStar
import PySem.Challenge.RW_lowcolumns_k20_calls_reverted
set_option Elab.async false
set_option linter.all false
set_option maxRecDepth 100000
namespace Lc
open PySem PySem.Spec PyProof.Rows L2

/-! ### defs that call repr: their promise holds where no repr is under way -/
structure FnG (P : Program) (w : World) (K : PySem.W.Frag) (mg : Str → Option Value) (base : Heap)
    (CX : CXT) (k : Nat) (f : Addr) (fd : FuncData) (ps : List Str) (sp : Sp) : Prop where
  arity : ∀ vs H Q E, sp vs H Q E → vs.length = ps.length
  go : ∀ (A : Around) (outer : List Env) (s : Shared) (H : Hp) (args : Args) (us : List Value) (vs : List V) (Q : VK) (E : XK),
    A.guards = some [] → Room k A → Env0 P w K mg base A outer s H → BindsTo s fd args (ps.zip us) →
    Vals vs us → sp vs H Q E →
    codeAny (model P w) A (.call (.ref f) args) (CR CX outer P w H s Q E) s

theorem FnG.of {P : Program} {w : World} {K : PySem.W.Frag} {mg : Str → Option Value} {base : Heap} {CX : CXT} {k : Nat}
    {f : Addr} {fd : FuncData} {ps : List Str} {sp : Sp} (F : FnOk P w K mg base CX k f fd ps sp) : FnG P w K mg base CX k f fd ps sp :=
  ⟨F.len, fun A o s H a us vs Q E _ => F.run A o s H a us vs Q E⟩

section
variable {P : Program} {w : World} {K : PySem.W.Frag} {mg : Str → Option Value} {base : Heap} {CX : CXT}
/-- a def by its body, where no repr is under way -/
theorem funG {x qual : Str} {st : Stmt} {f : Addr} {fd : FuncData} {N ps : List Str} {k : Nat} {sp : Sp}
    (F : Fun K x qual st f fd) (S : FnScope N ps (defScope st)) (len : ∀ vs H Q E, sp vs H Q E → vs.length = ps.length)
    (hbody : ∀ (cdv : Value) (A : Around) (outer : List Env) (s : Shared) (H : Hp) (vs : List V) (Q : VK) (E : XK),
      A.guards = some [] → Room k (A.deeper (envOfC qual (defScope st) s.heap.objs.size f cdv)) → sp vs H Q E →
      ∃ t, PSs (cxOf CX P w K mg base N qual (defScope st) f cdv A outer s H E) (defBody st) t ∧
        t { nx := fun _ H' => Q .non H', rt := Q } (start N vs) H) :
    FnG P w K mg base CX (k + 1) f fd ps sp := by
  obtain ⟨oc, od, kV, doc, pm, an, cdv, ct, osl, rfl, lk, hcd⟩ := F.ex
  refine ⟨len, fun A outer s H args us vs Q E hgu hr e0 hb r hsp => ?_⟩
  have hl := len _ _ _ _ hsp
  have up : ∀ b o, base.get? b = some o → s.heap.get? b = some o := fun b o e => (e0.bs b o e).1
  have KX : K.In s.heap := e0.mod.kin.keeps up
  have lim : s.heap.NoLimit := e0.mod.nolimit.keeps up
  refine codeAny_call_function hr.depth (KX _ _ lk) rfl S.co S.gen rfl
    (PySem.W.codeRec_of KX hcd) (hb _ _ _ _ ?_)
  refine wpAny_newFunctionEnv_cells S.kind (fun y hy => ?_) fun env he s1 x => ?_
  · have hm := (List.of_mem_zip (show (y.1, y.2) ∈ ps.zip us from hy)).1
    cases S.par y.1 hm with
    | inl q => exact .inl q
    | inr q => exact .inr ⟨q, PySem.W.cellsFrom_some _ _ _ (.inl q)⟩
  subst he
  refine ⟨lim.keeps x.toInCall.keep, codeAny_func ?_⟩
  obtain ⟨t, ht, hq⟩ := hbody cdv A outer s H vs Q E hgu (hr.deeper _) hsp
  have I := inv_start (CX := CX) (P := P) (w := w) (qual := qual) (E := E) S hr.hd e0 hl r x
  refine wpAny_mono (ht.run [] s1 (start N vs) H _ I hq) (fun fl s' hs => ?_) (fun e s' hs => hs)
  cases fl with
  | ret u => obtain ⟨v, σ', H', J, rv, q⟩ := hs; exact ⟨v, H', J.os, J.bare, J.base, J.hok, rv, q⟩
  | next => obtain ⟨σ', H', J, q⟩ := hs; exact ⟨V.non, H', J.os, J.bare, J.base, J.hok, rfl, q⟩
  | brk => obtain ⟨_, _, _, q⟩ := hs; exact q.elim
  | cont => obtain ⟨_, _, _, q⟩ := hs; exact q.elim
end

/-- the same of a def that lets no exception out -/
theorem funG0 {P : Program} {w : World} {K : PySem.W.Frag} {mg : Str → Option Value} {base : Heap} {x qual : Str} {st : Stmt} {f : Addr} {fd : FuncData} {N ps : List Str} {k : Nat} {sp : Sp}
    (F : Fun K x qual st f fd) (S : FnScope N ps (defScope st)) (len : ∀ vs H Q E, sp vs H Q E → vs.length = ps.length)
    (hbody : ∀ (cdv : Value) (A : Around) (outer : List Env) (s : Shared) (H : Hp) (vs : List V) (Q : VK) (E : XK),
      A.guards = some [] → Room k (A.deeper (envOfC qual (defScope st) s.heap.objs.size f cdv)) → sp vs H Q E →
      ∃ t, PSs (cxOf CX0 P w K mg base N qual (defScope st) f cdv A outer s H E).nox (defBody st) t ∧
        t { nx := fun _ H' => Q .non H', rt := Q } (start N vs) H) : FnG P w K mg base CX0 (k + 1) f fd ps sp :=
  funG F S len fun cdv A outer s H vs Q E hgu hr h => by
    obtain ⟨t, ht, hq⟩ := hbody cdv A outer s H vs Q E hgu hr h
    exact ⟨t, ht.nox, hq⟩
section
variable {X : Cx} {CX : CXT} {k : Nat} {f : Addr} {fd : FuncData} {ps : List Str} {sp : Sp} {dvs : List V} {ds : List Value} {E : XK}
  {x : Str} {p pos : Pos} {e : Expr} {es : List Expr} {t tk : TA} {ks : List Str} {kws : List Keyword}
  {g : List Value → List Value → List Value} {gV : List V → List V → List V}
theorem afterG {pins : List (Addr × Obj)} {σ : L2.St} {H : Hp} {s : Shared} {Q : VK} (hx : Passes CX X E) (I : Inv X pins σ H s) {args : Args}
    (h : codeAny (model X.prog X.w) X.A (.call (.ref f) args) (CR CX X.stack X.prog X.w H s Q E) s) :
    wpAny (model X.prog X.w) X.A (call (.ref f) args.pos args.kw) (EP X pins σ Q) X.xe s := by
  refine wpAny_call (codeAny_mono h fun r s' hq => ?_)
  cases r with
  | error e => exact hx pins σ H s e s' I hq
  | ok fl => cases fl with
    | ret u => exact I.after hq
    | next => exact hq.elim
    | brk => exact hq.elim
    | cont => exact hq.elim
/-- f(e, ..) of such a def -/
theorem pe_callG (F : FnG X.prog X.w X.K X.mg X.base CX k f fd ps sp) (hgu : X.A.guards = some []) (hr : Room k X.A)
    (hg : Gl X x) (hm : X.mg x = some (.ref f)) (hk : PySem.W.keepIn X.K (.ref f) = true) (hb : Binds X.K fd ps ds)
    (hd : Vals dvs ds) (hx : Passes CX X E) (ha : PA X (e :: es) t)
    (hdb : (x == ("__debug__" : Str)) = false := by decide)
    (he : starEach (e :: es) X.env = (false, eval e X.env) :: starEach es X.env := by rfl)
    (hpl : (backTo pos (starEach es X.env)).any (·.1) = false := by rfl) :
    PE X (.Call (.Name x p) (e :: es) [] pos) (tCall sp dvs E t) := by
  refine ⟨fun pins s σ H Q I h => wpAny_Call_Name_kw (ld_glob I hg hm ?_ hdb)⟩
  refine PySem.W.callWith_K (h₀ := X.base) I.ok.mod.kin hk
    (thn (ha.run pos pins s σ H _ I h) fun us s1 ⟨vs, H1, I1, r, q⟩ => ⟨I1.kIn, ?_⟩) he hpl
  have r2 : Vals (vs ++ dvs) (us ++ ds) := r.append hd
  have hl : (us ++ ds).length = ps.length := r2.length.symm.trans (F.arity _ _ _ _ q)
  exact afterG hx I1 (F.go X.A X.stack s1 H1 ⟨us, []⟩ (us ++ ds) (vs ++ dvs) Q E hgu hr I1.env0 (hb s1 us I1.kIn hl) r2 q)
/-- f(k = v, ..), every argument by its name -/
theorem pe_callK0 (F : FnOk X.prog X.w X.K X.mg X.base CX k f fd ps sp) (hr : Room k X.A) (hg : Gl X x)
    (hm : X.mg x = some (.ref f)) (hk : PySem.W.keepIn X.K (.ref f) = true) (hb : KBinds X.K fd ps ks g gV) (hx : Passes CX X E)
    (hkw : PK X kws tk) (hall : (backToKw pos (keywordEach kws X.env)).all (·.1.isSome) = true := by rfl)
    (hks : (backToKw pos (keywordEach kws X.env)).filterMap (·.1) = ks := by rfl)
    (hdb : (x == ("__debug__" : Str)) = false := by decide)
    (hpl : ((backTo pos (starEach [] X.env)).any (·.1) || (backToKw pos (keywordEach kws X.env)).any (·.1.isNone)) = false := by rfl) :
    PE X (.Call (.Name x p) [] kws pos) (tCallK sp gV E tNil tk) := by
  refine ⟨fun pins s σ H Q I h => wpAny_Call_Name_kw (ld_glob I hg hm ?_ hdb)⟩
  refine PySem.W.callWith_KW0 (first := []) (h₀ := X.base) I.ok.mod.kin hk hall
    (thn (hkw.run pos pins s σ H _ I h) fun ws s1 ⟨zs, H1, I1, rz, q⟩ => ⟨I1.kIn, ?_⟩) hpl
  rw [hks]
  exact run_fnk (us := []) (vs := []) F hr hb hx I1 .nil rz q
end

/-! ### repr of data -/
/-- data whose repr is known and short: ints of at most 100 signs -/
structure Nice (d : PyData) : Prop where
  sh : d.showable = true
  nd : d.hasDict = false
  dp : d.depth ≤ 40
  lf : d.leavesShort 100 = true
  bk : d.bulk ≤ 100000
def rReprD (K : PySem.W.Frag) : List V → Hp → VK → Prop := fun xs H Q => ∃ a d, xs = [V.ref a] ∧ Dp K H (.ref a) d ∧ Nice d ∧ Q (.str d.shown) H
theorem call_repr_D {X : Cx} (hg : X.A.guards = some []) (hu : X.A.units + 64 < cLine) : CallR X (.builtin "repr") (rReprD X.K) := by
  intro pins s σ H xs us Q I r h
  obtain ⟨a, d, rfl, hd, n, q⟩ := h
  obtain ⟨u, rfl, ru⟩ := vals1 r
  obtain rfl : u = Value.ref a := ru
  obtain ⟨as, rd⟩ := Dp.reads I d (.ref a) (.ref a) hd rfl
  refine repr_of_reads' rd n.sh (PyData.noDict_hsm n.nd) hg (by have := n.dp; omega) (fun _ _ e => e) (fun h' v tk hk => ?_) ?_
  · exact ⟨.str d.shown, H, I.kept hk, ⟨_, rfl⟩, q⟩
  · have := PyData.shown_le_bulk 100 (by decide) d n.lf
    have := n.bk
    rw [sizeLine_eq]
    omega

/-! ### type(x), == of two built-in types -/
def rTypeX (K : PySem.W.Frag) : List V → Hp → VK → Prop := fun xs H Q => ∃ x T, xs = [x] ∧ TyX K H x (.type T) ∧ Q (.ty T) H
theorem call_type_list {X : Cx} : CallR X (.type "type") (fun xs H Q => ∃ a ys, xs = [V.ref a] ∧ SqL X.K H a ys ∧ Q (.ty "list") H) := by
  intro pins s σ H xs us Q I r h
  obtain ⟨a, ys, rfl, hs, q⟩ := h
  obtain ⟨u, rfl, ru⟩ := vals1 r
  obtain rfl : u = Value.ref a := ru
  obtain ⟨its, rv, pl, hz⟩ := I.list hs
  have ty : s.TypeIs (.ref a) "list" := pl.isList.typeIs
  exact PySem.call_type_of ty (by decide +kernel) ⟨.ty "list", H, I, rfl, q⟩
/-- == of the class list and the class list -/
def rEqTy : R2 := fun x y H Q => x = V.ty "list" ∧ y = V.ty "list" ∧ Q (V.bl true) H
theorem op_eqTy {X : Cx} : OpR X (compareOp .Eq) rEqTy := by
  intro pins s σ H x y v u Q I rx ry h
  obtain ⟨e1, e2, q⟩ := h
  subst e1
  subst e2
  have e3 : v = Value.type "list" := rx
  have e4 : u = Value.type "list" := ry
  subst e3
  subst e4
  have fin : EP X pins σ Q (Value.bool true) s := ⟨.bl true, H, I, rfl, q⟩
  exact PySem.TypeEq.eq_type_same (X := "list") PySem.TypeEq.meta_list fin
def CPowW (i j : Int) : Prop := 0 ≤ j ∧ (Builtin.Int.intBits i : Int) * j ≤ 2 ^ 27
theorem op_powW {X : Cx} : OpR X (binaryOp .Pow) (rI CPowW fun i j => .int (i ^ j.toNat)) := opI fun _ _ _ _ _ _ _ hc q => PyProof.Rows.pow_int hc.1 hc.2 q
theorem fdivW {i j : Int} (h0 : 0 < j) (h : j ≤ 100000000000000000000000000000000) : CDivW i j := by
  refine wide_div (b := 130) h0 ?_ (by decide) (by decide)
  have e : (2 : Nat) ^ 130 = 1361129467683753853853498429727072845824 := by decide +kernel
  rw [e]
  omega

/-- len(x) in a comprehension's block: the reading by K -/
def rLenK (K : PySem.W.Frag) : List V → Hp → VK → Prop := fun xs H Q => ∃ p ys, xs = [V.ref p] ∧ (SqL K H p ys ∨ SqT K H p ys) ∧ Q (.int (ys.length : Nat)) H

/-! ### heaps -/
/-- all that was tracked, but what stands at a, is as it was -/
def But (a : Addr) (H H' : Hp) : Prop := ∀ b o, b ≠ a → H b = some o → H' b = some o
theorem But.of {a : Addr} {H H' : Hp} (h : Same H H') : But a H H' := fun b o _ e => h b o e
theorem But.refl (a : Addr) (H : Hp) : But a H H := fun _ _ _ e => e
theorem But.trans {a : Addr} {H H1 H2 : Hp} (x : But a H H1) (y : But a H1 H2) : But a H H2 := fun b o n e => y b o n (x b o n e)
theorem But.upd (a : Addr) (H : Hp) (o : HO) : But a H (upd H a o) := fun b u n e => by rw [upd_ne n]; exact e
theorem same_new {H : Hp} {p : Addr} (o : HO) (h : H p = none) : Same H (upd H p o) := fun b x e => by
  rw [upd_ne (ne_of_none e h)]; exact e
theorem But.new {a : Addr} {H H1 : Hp} {p : Addr} (o : HO) (x : But a H H1) (h : H1 p = none) : But a H (L2.upd H1 p o) := x.trans (But.of (same_new o h))
/-- what was new and is changed: all else is as it was -/
theorem same_but {H H1 H2 : Hp} {p : Addr} (s : Same H H1) (n : H p = none) (b : But p H1 H2) : Same H H2 := fun c o e =>
  b c o (ne_of_none e n) (s c o e)
/-- a list that is read, at another place than a -/
def Oth (K : PySem.W.Frag) (a : Addr) (H : Hp) (l : Addr) (xs : List V) : Prop := SqL K H l xs ∧ (l ≠ a ∨ H l = none)
theorem But.seq {K : PySem.W.Frag} {a l : Addr} {H H' : Hp} {xs : List V} (b : But a H H') (h : SqL K H l xs) (n : l ≠ a) : SqL K H' l xs := by
  rcases h with (h | ⟨o, h⟩) | h
  · exact .inl (.inl (b _ _ n h))
  · exact .inl (.inr ⟨o, b _ _ n h⟩)
  · exact .inr h
/-- the script: locked, or of the module -/
def Scr (K : PySem.W.Frag) (H : Hp) (a : Addr) (xs : List V) : Prop := (∃ o, H a = some (.frz o (.lst xs))) ∨ ∀ H', SqL K H' a xs
theorem Scr.sq {K : PySem.W.Frag} {H : Hp} {a : Addr} {xs : List V} (h : Scr K H a xs) : SqL K H a xs := by
  rcases h with ⟨o, h⟩ | h
  · exact .inl (.inr ⟨o, h⟩)
  · exact h H
theorem scr_of {K : PySem.W.Frag} {H : Hp} {a : Addr} {xs : List V} (hO : Only H) (h : SqL K H a xs) : Scr K H a xs := by
  rcases h with (h | ⟨o, h⟩) | h
  · rcases hO a with z | ⟨o, ys, z⟩ <;> (rw [h] at z; cases z)
  · exact .inl ⟨o, h⟩
  · exact .inr fun _ => .inr h
theorem Scr.same {K : PySem.W.Frag} {H H' : Hp} {a : Addr} {xs : List V} (h : Scr K H a xs) (s : Same H H') : Scr K H' a xs := by
  rcases h with ⟨o, h⟩ | h
  · exact .inl ⟨o, s _ _ h⟩
  · exact .inr h
theorem Scr.but {K : PySem.W.Frag} {H H' : Hp} {a p : Addr} {xs : List V} (h : Scr K H a xs) (n : ∀ o u, H p ≠ some (.frz o u)) (b : But p H H') : Scr K H' a xs := by
  rcases h with ⟨o, h⟩ | h
  · exact .inl ⟨o, b _ _ (fun e => n _ _ (e ▸ h)) h⟩
  · exact .inr h

/-! ### loops in the shape that our promises have -/
theorem ite_t {c A B : Prop} [Decidable c] (hc : c) (h : A) : if c then A else B := by rw [if_pos hc]; exact h
theorem ite_f {c A B : Prop} [Decidable c] (hc : ¬ c) (h : B) : if c then A else B := by rw [if_neg hc]; exact h
theorem same_set {H H1 : Hp} {p : Addr} {o : HO} (s : Same H H1) (n : H p = none) : Same H (upd H1 p o) := fun b u e => by
  rw [upd_ne (ne_of_none e n)]
  exact s b u e
theorem same_lay {H H1 : Hp} {p : Addr} {o : HO} (s : Same H H1) (n : H1 p = none) : Same H (upd H1 p o) := same_set s (s.free n)
theorem take_map_succ {α β : Type} (f : α → β) {xs : List α} {i : Nat} {x : α} (h : xs[i]? = some x) : (xs.take i).map f ++ [f x] = (xs.take (i + 1)).map f := by
  rw [List.take_add_one, h, List.map_append]
  rfl
theorem get_map {α β : Type} {f : α → β} {xs : List α} {i : Nat} {y : β} (h : (xs.map f)[i]? = some y) : ∃ x, xs[i]? = some x ∧ y = f x := by
  rw [List.getElem?_map] at h
  cases e : xs[i]? with
  | none => rw [e] at h; cases h
  | some x => rw [e] at h; exact ⟨x, rfl, (Option.some.inj h).symm⟩
theorem get_lt {α : Type} {xs : List α} {i : Nat} {x : α} (h : xs[i]? = some x) : i < xs.length := (List.getElem?_eq_some_iff.mp h).1
theorem small_of {n m : Nat} (h : n ≤ m) (hm : m ≤ 100000) : n < sizeLine := by rw [sizeLine_eq]; omega
theorem small_le {n m : Nat} (h : n ≤ m) (hm : m ≤ 100000) : n ≤ sizeLine := by rw [sizeLine_eq]; omega
/-- ints of a list within bounds -/
def within (lo hi : Int) (ns : List Int) : Bool := ns.all fun n => decide (lo ≤ n ∧ n ≤ hi)
theorem bits_le {x : Int} {b : Nat} (h : x.natAbs < 2 ^ b) (hb : 0 < b) : Builtin.Int.intBits x ≤ b := by
  have l := PySem.Flt.log2_lt_of hb h
  unfold Builtin.Int.intBits
  split <;> omega

/-! ### the end of a law's row, where the law calls repr -/
theorem nil_no {α : Type} {b : α} (h : b ∈ ([] : List α)) {p : Prop} : p := by cases h
theorem lawG {P : Program} {w : World} {K : PySem.W.Frag} {mg mb : Str → Option Value} {CX : CXT} {k : Nat} {fa a : Addr} {fd : FuncData} {x : Str} {sp : Sp} {s₁ : Shared} {vs : List Value} {ns : List Int}
    (KX : K.In s₁.heap) (hns : s₁.heap.Ns mainGlobals mg) (hb : s₁.heap.Ns builtinsNs mb) (hbb : ∀ x : Str, x ≠ "__name__" → mb x = bootBuiltins x)
    (hlim : s₁.heap.NoLimit) (hg : s₁.gens = #[]) (ha : s₁.heap.get? a = some { cls := .type "list", data := .seq vs.toArray })
    (hi : IntsAre vs ns) (hl : ns.length ≤ sizeLine) (hr : Room k callerA)
    (F : ∀ base : Heap, K.In base → base.Ns mainGlobals mg → FnG P w K mg base CX k fa fd [x] sp)
    (hbind : ∀ (s : Shared) (u : Value), BindsTo s fd ⟨[u], []⟩ [(x, u)])
    (hsp : ∀ H : Hp, Only H → SqL K H a (ns.map V.int) → sp [.ref a] H (fun v _ => v = .bl true) fun _ _ _ => False)
    (hCX : ∀ H e s', CX [] H s₁ (fun _ _ _ => False) e s' → False) :
    codeAny (model P w) callerA (.call (.ref fa) ⟨[.ref a], []⟩)
      (fun r s' => r = .ok (.ret (.bool true)) ∧ OldK s₁.heap s'.heap ∧ s'.os = s₁.os ∧ AllBare s'.gens) s₁ := by
  have rv := vals_ints hi
  have lenV := hi.length
  /- H: what is tracked at the entry, the script at most -/
  have core : ∀ H : Hp, Only H → SqL K H a (ns.map V.int) → HOk P w H s₁.heap → (∀ b, H b ≠ none → b = a) →
      (H a ≠ none → K.lookup a = none) →
      codeAny (model P w) callerA (.call (.ref fa) ⟨[.ref a], []⟩)
        (fun r s' => r = .ok (.ret (.bool true)) ∧ OldK s₁.heap s'.heap ∧ s'.os = s₁.os ∧ AllBare s'.gens) s₁ := by
    intro H hO hS ok hA hK
    have onlyA : ∀ {b : Addr}, (b = a → False) → H b = none := fun {b} hn => by
      cases q : H b with
      | none => rfl
      | some u => exact (hn (hA b (by rw [q]; exact fun z => nomatch z))).elim
    have nsK : ∀ {b : Addr} {m : Str → Option Value}, s₁.heap.Ns b m → (hidT s₁.heap H).Ns b m := by
      rintro b m ⟨o, es, ep, e, d, r⟩
      refine ⟨o, es, ep, hidT_get e (onlyA fun z => ?_), d, r⟩
      subst z
      rw [ha] at e
      cases e
      exact nomatch d
    have hKb : K.In (hidT s₁.heap H) := fun b o e => by
      refine hidT_get (KX b o e) ?_
      cases q : H b with
      | none => rfl
      | some u =>
        have e' : b = a := hA b (by rw [q]; exact fun z => nomatch z)
        subst e'
        rw [hK (by rw [q]; exact fun z => nomatch z)] at e
        cases e
    obtain ⟨mc, h1, h2⟩ := hlim
    have hM : Mod K mg (hidT s₁.heap H) := ⟨hKb, nsK hns, ⟨mb, nsK hb, hbb⟩, ⟨mc, nsK h1, h2⟩⟩
    have e0 : Env0 P w K mg (hidT s₁.heap H) callerA [] s₁ H :=
      ⟨rfl, hM, fun b o e => of_hidT e, Nat.le_of_eq (hidT_size _ _), trivial, (fun b z => nil_no z), ok, AllBare.of_eq hg⟩
    have run := (F _ hKb (nsK hns)).go callerA [] s₁ H ⟨[.ref a], []⟩ [.ref a] [.ref a] _ _ rfl hr e0 (hbind s₁ (.ref a)) (.cons rfl .nil) (hsp H hO hS)
    refine codeAny_mono run fun r s' h => ?_
    match r, h with
    | .error e, h => exact (hCX H e s' h).elim
    | .ok .next, h => exact h.elim
    | .ok .brk, h => exact h.elim
    | .ok .cont, h => exact h.elim
    | .ok (.ret u), h =>
      obtain ⟨v, H', os, bare, un, hok', r', q⟩ := h
      obtain rfl : v = .bl true := q
      obtain rfl : u = Value.bool true := r'
      refine ⟨rfl, OldK.of_keep fun b o e => ?_, os, bare⟩
      rcases hO b with z | ⟨ob, xs, z⟩
      · exact un.keep b o e z (fun y => nil_no y) (fun y => nil_no y)
      · have e1 := (ok b _ z).1
        have e2 := (hok' b _ (un.frzs b ob _ z)).1
        rw [e] at e1
        cases e1
        exact e2
  cases hk : K.lookup a with
  | some o =>
    have e := KX a o hk
    rw [ha] at e
    cases e
    refine core (fun _ => none) (fun _ => .inl rfl) (.inr ⟨_, vs.toArray, _, hk, rfl, rfl, rfl, ?_, by simpa using rv⟩) ?_ (fun b z => absurd rfl z) (fun z => absurd rfl z)
    · rw [List.size_toArray, lenV]
      exact hl
    · intro b u z
      exact nomatch (show (none : Option HO) = some u from z)
  | none =>
    have at_ : ∀ b u, (if b = a then some (HO.frz { cls := .type "list", data := .seq vs.toArray } (.lst (ns.map V.int))) else none) = some u → b = a ∧ u = HO.frz { cls := .type "list", data := .seq vs.toArray } (.lst (ns.map V.int)) := fun b u z => by
      by_cases hb : b = a
      · rw [if_pos hb] at z
        exact ⟨hb, (Option.some.inj z).symm⟩
      · rw [if_neg hb] at z
        cases z
    refine core (fun b => if b = a then some (HO.frz { cls := .type "list", data := .seq vs.toArray } (.lst (ns.map V.int))) else none) (fun b => ?_) (.inl (.inr ⟨{ cls := .type "list", data := .seq vs.toArray }, if_pos rfl⟩)) (fun b u z => ?_) (fun b z => ?_) fun _ => hk
    · by_cases hb : b = a
      · exact .inr ⟨_, _, if_pos hb⟩
      · exact .inl (if_neg hb)
    · obtain ⟨hb, rfl⟩ := at_ b u z
      subst hb
      exact ⟨ha, by rw [List.length_map]; exact hl, vs, _, rv, ha⟩
    · by_cases hb : b = a
      · exact hb
      · exact absurd (if_neg hb) z
/-- the goal that the head leaves, from such a promise of the law's def -/
theorem walkG {l : PySem.W.OpenLaw} {n k : Nat} {q : Program} {loose : List Str} {XP : (Str → Option Value) → Heap → Prop} {YP : World → Heap → Prop} {d : DefRec} {K : Params → PySem.W.Frag} {CX : World → CXT} {sp : World → Sp} {x : Str}
    (hn : l.most = some n) (hn2 : n ≤ sizeLine) (hdf : d.params.defaults = []) (hr : Room k callerA) (hY : ∀ (w : World) (h : Heap), YP w h → (K w.params).In h)
    (F : ∀ (w : World) (mg : Str → Option Value) (fa : Addr) (h : Heap), (K w.params).In h → h.Ns mainGlobals mg → mg d.name = some (.ref fa) →
      ∃ fd : FuncData, (∀ (s : Shared) (u : Value), BindsTo s fd ⟨[u], []⟩ [(x, u)]) ∧ ∀ base : Heap, (K w.params).In base → base.Ns mainGlobals mg → FnG l.prog w (K w.params) mg base (CX w) k fa fd [x] (sp w))
    (hsp : ∀ (w : World) (H : Hp) (a : Addr) (ns : List Int), ns.length ≤ n → Only H → SqL (K w.params) H a (ns.map V.int) → sp w [.ref a] H (fun v _ => v = .bl true) fun _ _ _ => False)
    (hCX : ∀ (w : World) (H : Hp) (s : Shared) (e : Value) (s' : Shared), CX w [] H s (fun _ _ _ => False) e s' → False) :
    PySem.W.WalkO q loose XP YP l.row.toRowW d [] (fun f vs => PySem.call f vs) := by
  refine Att.attach_call hn hdf fun w s₀ s₁ mg mb fa o pm cd doc a vs ns G Y ho hd hcd hmg hobj hints hlen hg => ?_
  have KX := hY w _ Y
  obtain ⟨fd, hb, hF⟩ := F w mg fa _ KX G.T.g hmg
  exact lawG KX G.T.g G.T.b G.T.builtins G.T.nolimit hg hobj hints (Nat.le_trans hlen hn2) hr hF hb (fun H hO hS => hsp w H a ns hlen hO hS) (fun H e s' => hCX w H s₁ e s')
end Lc

/-! the mathematics of layouts: plain Lean -/
namespace Lc
/-- the first place of m -/
def ix (m : Int) : List Int → Nat
  | [] => 0
  | x :: xs => if x = m then 0 else ix m xs + 1
theorem ix_get {m : Int} : ∀ {cs : List Int}, m ∈ cs → cs[ix m cs]? = some m
  | [], h => by cases h
  | x :: xs, h => by
    unfold ix
    by_cases e : x = m
    · rw [if_pos e, e]; rfl
    · rw [if_neg e, List.getElem?_cons_succ]
      exact ix_get ((List.mem_cons.mp h).resolve_left fun z => e z.symm)
theorem ix_first {m : Int} : ∀ {cs : List Int} {k : Nat} {z : Int}, k < ix m cs → cs[k]? = some z → z ≠ m
  | [], k, z, h, e => by cases e
  | x :: xs, k, z, h, e => by
    unfold ix at h
    by_cases q : x = m
    · rw [if_pos q] at h; omega
    · rw [if_neg q] at h
      cases k with
      | zero => exact fun r => q ((Option.some.inj e).trans r)
      | succ k => exact ix_first (m := m) (cs := xs) (k := k) (by omega) (by simpa using e)
/-- the least item -/
def mn : List Int → Int
  | [] => 0
  | [x] => x
  | x :: y :: r => if x ≤ mn (y :: r) then x else mn (y :: r)
theorem mn_spec : ∀ {cs : List Int}, cs ≠ [] → mn cs ∈ cs ∧ ∀ y ∈ cs, mn cs ≤ y
  | [], h => absurd rfl h
  | [x], _ => ⟨List.mem_singleton.mpr rfl, fun y hy => by rw [List.mem_singleton.mp hy]; exact Int.le_refl _⟩
  | x :: y :: r, _ => by
    have ih := mn_spec (cs := y :: r) (by simp)
    show (if x ≤ mn (y :: r) then x else mn (y :: r)) ∈ _ ∧ ∀ z ∈ x :: y :: r, (if x ≤ mn (y :: r) then x else mn (y :: r)) ≤ z
    by_cases h : x ≤ mn (y :: r)
    · rw [if_pos h]
      refine ⟨List.mem_cons_self, fun z hz => ?_⟩
      rcases List.mem_cons.mp hz with rfl | hz
      · exact Int.le_refl _
      · exact Int.le_trans h (ih.2 z hz)
    · rw [if_neg h]
      refine ⟨List.mem_cons_of_mem _ ih.1, fun z hz => ?_⟩
      rcases List.mem_cons.mp hz with rfl | hz
      · omega
      · exact ih.2 z hz
theorem mn_eq {cs : List Int} {m : Int} (h : m ∈ cs) (h2 : ∀ y ∈ cs, m ≤ y) : mn cs = m := by
  have hn : cs ≠ [] := fun e => by rw [e] at h; cases h
  have s := mn_spec hn
  exact Int.le_antisymm (s.2 m h) (h2 _ s.1)
/-- the left one, or the right one, of the lowest columns -/
def low (r : Bool) (cs : List Int) : Nat := if r = true then cs.length - 1 - ix (mn cs) cs.reverse else ix (mn cs) cs
theorem low_get {r : Bool} {cs : List Int} (h : cs ≠ []) : cs[low r cs]? = some (mn cs) := by
  have s := (mn_spec h).1
  unfold low
  cases r with
  | false => rw [if_neg (by simp)]; exact ix_get s
  | true =>
    rw [if_pos rfl]
    have g := ix_get (cs := cs.reverse) (List.mem_reverse.mpr s)
    have l := (List.getElem?_eq_some_iff.mp g).1
    rw [List.getElem?_reverse (by simpa using l)] at g
    exact g
theorem low_lt {r : Bool} {cs : List Int} (h : cs ≠ []) : low r cs < cs.length := (List.getElem?_eq_some_iff.mp (low_get h)).1
/-- one card -/
def put (r : Bool) (s : List (Nat × Int) × List Int) (h : Int) : List (Nat × Int) × List Int :=
  (s.1 ++ [(low r s.2, mn s.2)], s.2.set (low r s.2) (mn s.2 + h))
/-- the places (column, top) of the cards, the columns behind them -/
def play (r : Bool) (cs hs : List Int) : List (Nat × Int) × List Int := hs.foldl (put r) ([], cs)
theorem play_snoc (r : Bool) (cs hs : List Int) (h : Int) : play r cs (hs ++ [h]) = put r (play r cs hs) h := by
  unfold play
  rw [List.foldl_append]
  rfl
theorem play_take {r : Bool} {cs hs : List Int} {i : Nat} {h : Int} (e : hs[i]? = some h) : play r cs (hs.take (i + 1)) = put r (play r cs (hs.take i)) h := by
  rw [List.take_add_one, e]
  exact play_snoc r cs _ h
theorem fold_len2 (r : Bool) : ∀ (hs : List Int) (s : List (Nat × Int) × List Int), (hs.foldl (put r) s).2.length = s.2.length ∧ (hs.foldl (put r) s).1.length = s.1.length + hs.length
  | [], s => ⟨rfl, rfl⟩
  | h :: hs, s => by
    have q := fold_len2 r hs (put r s h)
    refine ⟨q.1.trans (List.length_set ..), q.2.trans ?_⟩
    show (s.1 ++ [_]).length + hs.length = s.1.length + (hs.length + 1)
    rw [List.length_append]
    simp only [List.length_cons, List.length_nil]
    omega
theorem play_cols (r : Bool) (cs hs : List Int) : (play r cs hs).2.length = cs.length := (fold_len2 r hs _).1
theorem play_len (r : Bool) (cs hs : List Int) : (play r cs hs).1.length = hs.length := by
  have := (fold_len2 r hs ([], cs)).2
  simpa [play] using this
theorem ixN_nat {n j : Nat} (h : j < n) : L2.ixN n (j : Int) = some j := by
  unfold L2.ixN
  rw [if_pos (by omega), if_pos (by omega)]
  rfl
theorem play_append (r : Bool) (cs xs ys : List Int) : play r cs (xs ++ ys) = ys.foldl (put r) (play r cs xs) := List.foldl_append ..
theorem fold_pre (r : Bool) : ∀ (hs : List Int) (s : List (Nat × Int) × List Int), ∃ t, (hs.foldl (put r) s).1 = s.1 ++ t
  | [], s => ⟨[], (List.append_nil _).symm⟩
  | h :: hs, s => by
    obtain ⟨t, e⟩ := fold_pre r hs (put r s h)
    refine ⟨(low r s.2, mn s.2) :: t, e.trans ?_⟩
    show (s.1 ++ [_]) ++ t = _
    rw [List.append_assoc]
    rfl
/-- the i-th place is found by the first i cards -/
theorem play_at {r : Bool} {cs hs : List Int} {i : Nat} {h : Int} (e : hs[i]? = some h) : (play r cs hs).1[i]? = some (low r (play r cs (hs.take i)).2, mn (play r cs (hs.take i)).2) := by
  have il : i < hs.length := (List.getElem?_eq_some_iff.mp e).1
  have e1 : hs = hs.take (i + 1) ++ hs.drop (i + 1) := (List.take_append_drop _ _).symm
  obtain ⟨t, et⟩ := fold_pre r (hs.drop (i + 1)) (play r cs (hs.take (i + 1)))
  have e2 : (play r cs hs).1 = (play r cs (hs.take (i + 1))).1 ++ t := by
    conv => lhs; rw [e1, play_append]
    exact et
  have l1 : (play r cs (hs.take i)).1.length = i := by
    have := (fold_len2 r (hs.take i) ([], cs)).2
    simp only [play] at this ⊢
    rw [this, List.length_take]
    simp only [List.length_nil]
    omega
  rw [e2, play_take e]
  show ((play r cs (hs.take i)).1 ++ [_] ++ t)[i]? = _
  rw [List.append_assoc, List.getElem?_append_right (by omega), l1, Nat.sub_self]
  rfl
/-- the tops, the end -/
def tops (cs hs : List Int) : List Int := (play false cs hs).1.map (·.2)
def ends (cs hs : List Int) : List Int := (play false cs hs).2
theorem tops_len (cs hs : List Int) : (tops cs hs).length = hs.length := by
  unfold tops
  rw [List.length_map, play_len]
theorem play_ne {r : Bool} {cs hs : List Int} (h : cs ≠ []) : (play r cs hs).2 ≠ [] := fun e => h (List.length_eq_zero_iff.mp (by rw [← play_cols r cs hs, e]; rfl))
end Lc

namespace Lc
open PySem PySem.Spec PyProof.Rows L2
/-- data of depth at most k and N items at most, ints of at most 90 digits -/
structure Nc (k N : Nat) (d : PyData) : Prop where
  sh : d.showable = true
  cl : d.canLay0 = true
  dp : d.depth ≤ k
  lf : d.leavesShort 100 = true
  bk : d.bulk ≤ N
theorem nc_int {i : Int} (h : i.natAbs < 10 ^ 90) : Nc 0 0 (.int i) := by
  refine ⟨?_, rfl, Nat.le_refl _, ?_, Nat.le_refl _⟩
  · show decide (i.natAbs.log2 < 1920) = true
    have e : (10 : Nat) ^ 90 ≤ 2 ^ 1000 := by decide +kernel
    exact decide_eq_true (Nat.lt_trans (PySem.Flt.log2_lt_of (by decide) (Nat.lt_of_lt_of_le h e)) (by decide))
  · simp only [PyData.leavesShort, decide_eq_true_eq]
    have := int_text_length_le10 (a := i) (k := 90) (by decide) h
    show (Str.ofString (toString i)).length ≤ 100
    rw [PySem.ofString_length]
    omega
theorem nc_all {k N : Nat} : ∀ {ds : List PyData}, (∀ d ∈ ds, Nc k N d) → PyData.showableAll ds = true ∧ PyData.canLayAll0 ds = true ∧ PyData.depthAll ds ≤ k ∧ PyData.leavesShortAll 100 ds = true ∧ PyData.bulkAll ds ≤ ds.length * (N + 1)
  | [], _ => ⟨rfl, rfl, Nat.zero_le _, rfl, Nat.zero_le _⟩
  | d :: ds, h => by
    have h1 := h d List.mem_cons_self
    obtain ⟨a, b, c, e, f⟩ := nc_all fun x hx => h x (List.mem_cons_of_mem d hx)
    refine ⟨?_, ?_, ?_, ?_, ?_⟩
    · simp only [PyData.showableAll, h1.sh, a, Bool.and_self]
    · simp only [PyData.canLayAll0, h1.cl, b, Bool.and_self]
    · simp only [PyData.depthAll]
      exact Nat.max_le.mpr ⟨h1.dp, c⟩
    · simp only [PyData.leavesShortAll, h1.lf, e, Bool.and_self]
    · simp only [PyData.bulkAll, List.length_cons]
      have := h1.bk
      rw [Nat.add_mul]
      omega
theorem nc_list {k N : Nat} {ds : List PyData} (h : ∀ d ∈ ds, Nc k N d) : Nc (k + 1) (ds.length * (N + 1)) (.list ds) := by
  obtain ⟨a, b, c, e, f⟩ := nc_all h
  refine ⟨by simpa only [PyData.showable] using a, by simpa only [PyData.canLay0] using b, ?_, by simpa only [PyData.leavesShort] using e, by simpa only [PyData.bulk] using f⟩
  simp only [PyData.depth]
  omega
theorem nc_tup {k N : Nat} {ds : List PyData} (h : ∀ d ∈ ds, Nc k N d) : Nc (k + 1) (ds.length * (N + 1)) (.tuple ds) := by
  obtain ⟨a, b, c, e, f⟩ := nc_all h
  refine ⟨by simpa only [PyData.showable] using a, by simpa only [PyData.canLay0] using b, ?_, by simpa only [PyData.leavesShort] using e, by simpa only [PyData.bulk] using f⟩
  simp only [PyData.depth]
  omega
theorem Nc.mono {k N k' N' : Nat} {d : PyData} (h : Nc k N d) (h1 : k ≤ k') (h2 : N ≤ N') : Nc k' N' d := ⟨h.sh, h.cl, Nat.le_trans h.dp h1, h.lf, Nat.le_trans h.bk h2⟩
theorem Nc.nice {k N : Nat} {d : PyData} (h : Nc k N d) (h1 : k ≤ 40) (h2 : N ≤ 100000) : Nice d :=
  ⟨h.sh, PyData.hasDict_of_canLay d h.cl, Nat.le_trans h.dp h1, h.lf, Nat.le_trans h.bk h2⟩
theorem Nc.shaped {k N : Nat} {d : PyData} (h : Nc k N d) (h1 : k ≤ 40) : SeqAt.shaped d = true := by
  unfold SeqAt.shaped
  rw [h.cl, Bool.true_and]
  exact decide_eq_true (Nat.le_trans h.dp (by omega))
theorem nc_ints {ns : List Int} {N : Nat} (h : ∀ n ∈ ns, n.natAbs < 10 ^ 90) (hl : ns.length ≤ N) : Nc 1 N (.list (ns.map PyData.int)) := by
  have q := nc_list (k := 0) (N := 0) (ds := ns.map PyData.int) fun d hd => by
    obtain ⟨n, hn, rfl⟩ := List.mem_map.mp hd
    exact nc_int (h n hn)
  rw [List.length_map] at q
  exact q.mono (by decide) (by omega)
/-- any list of ints is data that == reads -/
theorem shapedInts (ns : List Int) : SeqAt.shaped (.list (ns.map PyData.int)) = true := by
  have a : ∀ ns : List Int, PyData.canLayAll0 (ns.map PyData.int) = true ∧ PyData.depthAll (ns.map PyData.int) = 0 := fun ns => by
    induction ns with
    | nil => exact ⟨rfl, rfl⟩
    | cons n ns ih => exact ⟨by simp only [List.map_cons, PyData.canLayAll0, PyData.canLay0, ih.1, Bool.and_self], by simp only [List.map_cons, PyData.depthAll, PyData.depth, ih.2]; rfl⟩
  unfold SeqAt.shaped
  simp only [PyData.canLay0, PyData.depth, (a ns).1, (a ns).2]
  decide
theorem dpInts {K : PySem.W.Frag} {H : Hp} : ∀ ns : List Int, DpAll K H (ns.map V.int) (ns.map PyData.int)
  | [] => .nil
  | n :: ns => .cons (.int n) (dpInts ns)
end Lc

namespace Lc
open PySem PySem.Spec PyProof.Rows L2
/-! columns as sorted lists -/
def Sorted (l : List Int) : Prop := l.Pairwise (· ≤ ·)
theorem set_perm : ∀ (ls : List Int) (j : Nat) (v : Int), j < ls.length → (ls.set j v).Perm (v :: ls.eraseIdx j)
  | [], _, _, h => absurd h (by simp)
  | _ :: _, 0, _, _ => List.Perm.refl _
  | x :: ls, j + 1, v, h => by
    have h' : j < ls.length := by simpa using h
    show (x :: ls.set j v).Perm (v :: x :: ls.eraseIdx j)
    exact ((set_perm ls j v h').cons x).trans (List.Perm.swap v x _)
theorem erase_perm : ∀ (ls : List Int) (j : Nat) (x : Int), ls[j]? = some x → (x :: ls.eraseIdx j).Perm ls
  | [], _, _, h => by cases h
  | y :: _, 0, x, h => by cases h; exact List.Perm.refl _
  | y :: ls, j + 1, x, h => by
    have h' : ls[j]? = some x := by simpa using h
    show (x :: y :: ls.eraseIdx j).Perm (y :: ls)
    exact (List.Perm.swap y x _).trans ((erase_perm ls j x h').cons y)
theorem sorted_head {x : Int} {l cs : List Int} (s : Sorted (x :: l)) (p : (x :: l).Perm cs) : mn cs = x :=
  mn_eq (p.subset List.mem_cons_self) fun y hy => by
    rcases List.mem_cons.mp (p.symm.subset hy) with rfl | h
    · exact Int.le_refl _
    · exact (List.pairwise_cons.mp s).1 y h
/-- one card, by the sorted columns -/
theorem put_sorted {r : Bool} {st : List (Nat × Int) × List Int} {x h : Int} {l l' : List Int} (s : Sorted (x :: l)) (p : (x :: l).Perm st.2) (q : l'.Perm ((x + h) :: l)) : l'.Perm (put r st h).2 := by
  have hne : st.2 ≠ [] := fun e => by rw [e] at p; exact absurd p.length_eq (by simp)
  have em := sorted_head s p
  have g := low_get (r := r) hne
  show l'.Perm (st.2.set (low r st.2) (mn st.2 + h))
  rw [em] at g ⊢
  refine q.trans ((List.Perm.cons _ ?_).trans (set_perm _ _ _ (low_lt hne)).symm)
  exact List.Perm.cons_inv (p.trans (erase_perm _ _ _ g).symm)
/-- a height put back at its place -/
theorem sorted_ins {h : Int} {l : List Int} {k : Nat} (s : Sorted l) (hlt : ∀ j z, j < k → l[j]? = some z → z < h) (hge : ∀ z, l[k]? = some z → h ≤ z) : Sorted (l.take k ++ [h] ++ l.drop k) := by
  have s1 : Sorted (l.take k) := s.sublist (List.take_sublist ..)
  have s2 : Sorted (l.drop k) := s.sublist (List.drop_sublist ..)
  have lo : ∀ z ∈ l.take k, z < h := fun z hz => by
    obtain ⟨j, hj, e⟩ := List.getElem_of_mem hz
    have hjk : j < k := by rw [List.length_take] at hj; omega
    refine hlt j z hjk ?_
    have := List.getElem?_eq_getElem hj
    rw [e, List.getElem?_take_of_lt hjk] at this
    exact this
  have hi : ∀ z ∈ l.drop k, h ≤ z := fun z hz => by
    cases e : l.drop k with
    | nil => rw [e] at hz; cases hz
    | cons y ys =>
      have hy : h ≤ y := by
        refine hge y ?_
        have := congrArg (·[0]?) e
        simpa [List.getElem?_drop] using this
      rw [e] at hz s2
      rcases List.mem_cons.mp hz with rfl | hz
      · exact hy
      · exact Int.le_trans hy ((List.pairwise_cons.mp s2).1 z hz)
  refine List.pairwise_append.mpr ⟨List.pairwise_append.mpr ⟨s1, List.pairwise_singleton _ _, fun a ha b hb => ?_⟩, s2, fun a ha b hb => ?_⟩
  · rw [List.mem_singleton.mp hb]
    exact Int.le_of_lt (lo a ha)
  · rcases List.mem_append.mp ha with ha | ha
    · exact Int.le_trans (Int.le_of_lt (lo a ha)) (hi b hb)
    · rw [List.mem_singleton.mp ha]; exact hi b hb
theorem ins_perm (l : List Int) (k : Nat) (h : Int) : (l.take k ++ [h] ++ l.drop k).Perm (h :: l) := by
  have e : (l.take k ++ [h] ++ l.drop k).Perm (h :: (l.take k ++ l.drop k)) := by
    rw [List.append_assoc]
    exact List.perm_middle
  rwa [List.take_append_drop] at e
theorem sorted_uniq : ∀ {a b : List Int}, Sorted a → Sorted b → a.Perm b → a = b
  | [], b, _, _, p => (List.Perm.nil_eq p)
  | x :: a, [], _, _, p => absurd p.length_eq (by simp)
  | x :: a, y :: b, sa, sb, p => by
    have e : y = x := by
      have h1 := sorted_head sa p
      have h2 := sorted_head sb p.symm
      have m1 := (mn_spec (cs := y :: b) (by simp))
      have m2 := (mn_spec (cs := x :: a) (by simp))
      have e1 : mn (x :: a) = mn (y :: b) := mn_eq (p.symm.subset m1.1) fun z hz => m1.2 z (p.subset hz)
      exact h2.symm.trans (e1.trans h1)
    subst e
    rw [sorted_uniq (List.pairwise_cons.mp sa).2 (List.pairwise_cons.mp sb).2 (List.Perm.cons_inv p)]
/-- slices -/
theorem cut_from {xs : List Int} {k : Nat} (h : k ≤ xs.length) : cutV (xs.map V.int) (some (k : Int)) none = (xs.drop k).map V.int := by
  unfold cutV
  rw [HT.sIx_nat, HT.sIx_none, List.length_map, Nat.min_eq_left h, ← List.map_drop, ← List.map_take, List.take_of_length_le (by rw [List.length_drop]; omega)]
theorem cut_to {xs : List Int} {k : Nat} (h : k ≤ xs.length) : cutV (xs.map V.int) none (some (k : Int)) = (xs.take k).map V.int := by
  unfold cutV
  rw [HT.sIx_nat, HT.sIx_none, List.length_map, Nat.min_eq_left h, ← List.map_drop, ← List.map_take]
  rfl
theorem cut_mid {xs : List Int} {i k : Nat} (h : k ≤ xs.length) (h2 : i ≤ k) : cutV (xs.map V.int) (some (i : Int)) (some (k : Int)) = ((xs.drop i).take (k - i)).map V.int := by
  unfold cutV
  rw [HT.sIx_nat, HT.sIx_nat, List.length_map, Nat.min_eq_left h, Nat.min_eq_left (by omega), ← List.map_drop, ← List.map_take]
end Lc

namespace Lc
open PySem PySem.Spec PyProof.Rows L2
theorem mn_perm {a b : List Int} (h : a ≠ []) (p : a.Perm b) : mn a = mn b := by
  have m := mn_spec (cs := b) (fun e => h (by rw [e] at p; exact p.eq_nil))
  exact mn_eq (p.symm.subset m.1) fun y hy => m.2 y (p.subset hy)
theorem put_cols (r : Bool) (s : List (Nat × Int) × List Int) (h : Int) (hne : s.2 ≠ []) : ∃ l, (mn s.2 :: l).Perm s.2 ∧ (put r s h).2.Perm ((mn s.2 + h) :: l) :=
  ⟨s.2.eraseIdx (low r s.2), erase_perm _ _ _ (low_get hne), set_perm _ _ _ (low_lt hne)⟩
theorem put_ne {r : Bool} {s : List (Nat × Int) × List Int} {h : Int} (hne : s.2 ≠ []) : (put r s h).2 ≠ [] := fun e => hne (by
  have : (s.2.set (low r s.2) (mn s.2 + h)).length = 0 := by show ((put r s h).2).length = 0; rw [e]; rfl
  rw [List.length_set] at this
  exact List.length_eq_zero_iff.mp this)
/-- the order of the columns, and the side, change no top and no height at the end -/
theorem fold_perm (r r' : Bool) : ∀ (hs : List Int) (s s' : List (Nat × Int) × List Int), s.2 ≠ [] → s.2.Perm s'.2 → s.1.map (·.2) = s'.1.map (·.2) →
    (hs.foldl (put r) s).1.map (·.2) = (hs.foldl (put r') s').1.map (·.2) ∧ (hs.foldl (put r) s).2.Perm (hs.foldl (put r') s').2
  | [], s, s', _, p, e => ⟨e, p⟩
  | h :: hs, s, s', hne, p, e => by
    have hne' : s'.2 ≠ [] := fun z => hne (by rw [z] at p; exact p.eq_nil)
    have em := mn_perm hne p
    obtain ⟨l, p1, p2⟩ := put_cols r s h hne
    obtain ⟨l', p1', p2'⟩ := put_cols r' s' h hne'
    have pl : l.Perm l' := List.Perm.cons_inv (a := mn s.2) (p1.trans (p.trans (by rw [em]; exact p1'.symm)))
    refine fold_perm r r' hs (put r s h) (put r' s' h) (put_ne hne) (p2.trans ((pl.cons _).trans ?_)) ?_
    · rw [em]; exact p2'.symm
    · show (s.1 ++ [(low r s.2, mn s.2)]).map (·.2) = (s'.1 ++ [(low r' s'.2, mn s'.2)]).map (·.2)
      rw [List.map_append, List.map_append, e, em]
      rfl
theorem tops_perm {cs os hs : List Int} (hne : cs ≠ []) (p : os.Perm cs) : tops os hs = tops cs hs :=
  (fold_perm false false hs ([], os) ([], cs) (fun e => hne (by have e' : os = [] := e; rw [e'] at p; exact p.nil_eq.symm)) p rfl).1
theorem ends_perm {cs os hs : List Int} (hne : cs ≠ []) (p : os.Perm cs) : (ends os hs).Perm (ends cs hs) :=
  (fold_perm false false hs ([], os) ([], cs) (fun e => hne (by have e' : os = [] := e; rw [e'] at p; exact p.nil_eq.symm)) p rfl).2
/-- tops never descend -/
theorem fold_sorted (r : Bool) : ∀ (hs : List Int) (s : List (Nat × Int) × List Int), s.2 ≠ [] → (∀ h ∈ hs, 0 ≤ h) → Sorted (s.1.map (·.2)) → (∀ t ∈ s.1.map (·.2), t ≤ mn s.2) → Sorted ((hs.foldl (put r) s).1.map (·.2))
  | [], s, _, _, so, _ => so
  | h :: hs, s, hne, hp, so, le => by
    obtain ⟨l, p1, p2⟩ := put_cols r s h hne
    have h0 := hp h List.mem_cons_self
    have m0 := mn_spec hne
    have m1 := mn_spec (put_ne (r := r) (h := h) hne)
    have up : mn s.2 ≤ mn (put r s h).2 := by
      rcases List.mem_cons.mp (p2.subset m1.1) with e | e
      · rw [e]; omega
      · exact m0.2 _ (p1.subset (List.mem_cons_of_mem _ e))
    have e1 : (put r s h).1.map (·.2) = s.1.map (·.2) ++ [mn s.2] := by
      show (s.1 ++ [(low r s.2, mn s.2)]).map (·.2) = _
      rw [List.map_append]; rfl
    refine fold_sorted r hs (put r s h) (put_ne hne) (fun x hx => hp x (List.mem_cons_of_mem _ hx)) ?_ ?_
    · rw [e1]
      refine List.pairwise_append.mpr ⟨so, List.pairwise_singleton _ _, fun a ha b hb => ?_⟩
      rw [List.mem_singleton.mp hb]
      exact le a ha
    · rw [e1]
      intro t ht
      rcases List.mem_append.mp ht with ht | ht
      · exact Int.le_trans (le t ht) up
      · rw [List.mem_singleton.mp ht]; exact up
theorem tops_sorted {cs hs : List Int} (hne : cs ≠ []) (hp : ∀ h ∈ hs, 0 ≤ h) : Sorted (tops cs hs) :=
  fold_sorted false hs ([], cs) hne hp List.Pairwise.nil fun t ht => by cases ht
/-- how high the columns, the tops, get -/
theorem fold_high (r : Bool) (B : Int) : ∀ (hs : List Int) (s : List (Nat × Int) × List Int) (M : Int), s.2 ≠ [] → (∀ h ∈ hs, 0 ≤ h ∧ h ≤ B) → (∀ c ∈ s.2, 0 ≤ c ∧ c ≤ M) → (∀ t ∈ s.1.map (·.2), 0 ≤ t ∧ t ≤ M) → 0 ≤ B →
    (∀ c ∈ (hs.foldl (put r) s).2, 0 ≤ c ∧ c ≤ M + hs.length * B) ∧ ∀ t ∈ (hs.foldl (put r) s).1.map (·.2), 0 ≤ t ∧ t ≤ M + hs.length * B
  | [], s, M, _, _, hc, ht, hB => ⟨fun c h => by have := hc c h; simp; omega, fun t h => by have := ht t h; simp; omega⟩
  | h :: hs, s, M, hne, hp, hc, ht, hB => by
    obtain ⟨l, p1, p2⟩ := put_cols r s h hne
    have h0 := hp h List.mem_cons_self
    have m0 := hc _ (mn_spec hne).1
    have q := fold_high r B hs (put r s h) (M + B) (put_ne hne) (fun x hx => hp x (List.mem_cons_of_mem _ hx)) (fun c hcm => ?_) (fun t htm => ?_) hB
    · have e : M + ((h :: hs).length : Nat) * B = M + B + (hs.length : Nat) * B := by
        rw [List.length_cons]
        have : (((hs.length + 1 : Nat)) : Int) * B = (hs.length : Int) * B + B := by
          rw [Int.natCast_add, Int.add_mul]; simp
        rw [this]; omega
      rw [e]
      exact q
    · rcases List.mem_cons.mp (p2.subset hcm) with e | e
      · rw [e]; omega
      · have := hc c (p1.subset (List.mem_cons_of_mem _ e)); omega
    · have e1 : (put r s h).1.map (·.2) = s.1.map (·.2) ++ [mn s.2] := by
        show (s.1 ++ [(low r s.2, mn s.2)]).map (·.2) = _
        rw [List.map_append]; rfl
      rw [e1] at htm
      rcases List.mem_append.mp htm with htm | htm
      · have := ht t htm; omega
      · rw [List.mem_singleton.mp htm]; omega
theorem nat_pow_big {n : Int} (h0 : 0 ≤ n) (h1 : n ≤ 1000000000000000000000000000000000) : n.natAbs < 10 ^ 90 := by
  have e : (10 : Nat) ^ 40 = 10000000000000000000000000000000000000000 := by decide +kernel
  have h3 : n.natAbs < 10 ^ 40 := by rw [e]; omega
  exact Nat.lt_of_lt_of_le h3 (Nat.pow_le_pow_right (by decide) (by decide))
theorem play_high {r : Bool} {cs hs : List Int} (hne : cs ≠ []) (hc : ∀ c ∈ cs, 0 ≤ c ∧ c ≤ 1000000000000000000000000000000) (hh : ∀ h ∈ hs, 1 ≤ h ∧ h ≤ 1000000000000000000000000000000) (hl : hs.length ≤ 200) :
    (∀ c ∈ (play r cs hs).2, c.natAbs < 10 ^ 90) ∧ ∀ t ∈ (play r cs hs).1.map (·.2), t.natAbs < 10 ^ 90 := by
  have q := fold_high r 1000000000000000000000000000000 hs ([], cs) 1000000000000000000000000000000 hne (fun h hm => by have := hh h hm; omega) hc (fun t ht => by cases ht) (by decide)
  have hb : 1000000000000000000000000000000 + (hs.length : Int) * 1000000000000000000000000000000 ≤ 1000000000000000000000000000000000 := by omega
  exact ⟨fun c h => by have := q.1 c h; exact nat_pow_big this.1 (Int.le_trans this.2 hb), fun t h => by have := q.2 t h; exact nat_pow_big this.1 (Int.le_trans this.2 hb)⟩
end Lc

namespace Lc
open PySem PySem.Spec PyProof.Rows L2
/-- a comprehension over enumerate of a list -/
theorem lc_enum {K : PySem.W.Frag} {a D : Addr} {xs : List V} {g : TG} {tt : TT} {te : TE} {vs : List Nat} {σ : L2.St} {H0 : Hp} {Qd : Hp → Prop}
    (Pv : Nat → Hp → Prop) (h0 : Pv 0 (upd H0 D (.lst []))) (hl : ∀ i H, i ≤ xs.length → Pv i H → SqL K H a xs)
    (hs : ∀ i x H T, xs[i]? = some x → Pv i H → H T = none → g (.ref T) (wipe σ vs) (upd H T (.tup [.int (i : Nat), x])) fun σ2 H2 =>
      wipe σ2 vs = wipe σ vs ∧ tt σ2 H2 fun b H3 => if b = true then te σ2 H3 fun y H4 => ∃ acc, H4 D = some (.lst acc) ∧ acc.length < sizeLine ∧ Pv (i + 1) (upd H4 D (.lst (acc ++ [y]))) else Pv (i + 1) H3)
    (hd : ∀ H, Pv xs.length H → Qd H) :
    ∃ W : Nat → Nat → Hp → Prop, (∃ m, W 0 m (upd H0 D (.lst []))) ∧ ∀ i m H, W i m H →
      (((Ite K a).stop i H ∧ Qd H) ∨ ((Ite K a).go i H ∧ ∃ Nx : Hp → Prop, (∀ H', Nx H' → ∃ m', m' < m ∧ W (i + 1) m' H') ∧
        ∀ x H', (Ite K a).yld i H x H' → g x (wipe σ vs) H' fun σ2 H2 => wipe σ2 vs = wipe σ vs ∧ tt σ2 H2 fun b H3 =>
          if b = true then te σ2 H3 fun y H4 => ∃ acc, H4 D = some (.lst acc) ∧ acc.length < sizeLine ∧ Nx (upd H4 D (.lst (acc ++ [y]))) else Nx H3)) := by
  refine ⟨fun i m H => m + i = xs.length ∧ Pv i H, ⟨xs.length, rfl, h0⟩, fun i m H hW => ?_⟩
  obtain ⟨em, p⟩ := hW
  have q := hl i H (by omega) p
  by_cases h : i < xs.length
  · refine .inr ⟨⟨xs, xs[i], q, List.getElem?_eq_getElem h⟩, Pv (i + 1), fun H' p' => ⟨m - 1, by omega, by omega, p'⟩, fun v H' y => ?_⟩
    obtain ⟨T, x, e1, nT, e2, hx⟩ := y
    subst e1
    subst e2
    exact hs i x H T (hx xs q) p nT
  · have e : i = xs.length := by omega
    subst e
    exact .inl ⟨⟨xs, q, Nat.le_refl _⟩, hd H p⟩
/-- min of a list of pairs of ints that an int of each pair orders -/
def PairAt (H : Hp) (v : V) (p : Int × Int) : Prop := ∃ q, v = .ref q ∧ H q = some (.tup [.int p.1, .int p.2])
def rMinP (K : PySem.W.Frag) : List V → Hp → VK → Prop := fun vs H Q => ∃ (a : Addr) (items : List V) (ps : List (Int × Int)) (f : Int × Int → Int), vs = [V.ref a] ∧ SqL K H a items ∧ items.length = ps.length ∧ 0 < ps.length ∧
  (∀ (i : Nat) (v : V) (p : Int × Int), items[i]? = some v → ps[i]? = some p → PairAt H v p) ∧
  (∀ p p', p ∈ ps → p' ∈ ps → HT.lexLt [p.1, p.2] [p'.1, p'.2] = decide (f p < f p')) ∧
  ∀ (i : Nat) (q : Addr) (p : Int × Int), items[i]? = some (.ref q) → ps[i]? = some p → H q = some (.tup [.int p.1, .int p.2]) → (∀ p' ∈ ps, f p ≤ f p') → Q (.ref q) H
theorem cr_minP {X : Cx} (hc : X.calm = true) (hu : X.A.units + 64 < cLine) : CallR X (.builtin "min") (rMinP X.K) := by
  intro pins s σ H vs us Q I r h
  obtain ⟨a, items, ps, f, rfl, hs, hlen, hpos, hp, hf, q⟩ := h
  obtain ⟨its, rv, pl, _⟩ := I.list hs
  obtain ⟨u, rfl, ru⟩ := vals1 r
  obtain rfl : u = Value.ref a := ru
  have hl := pl.isList
  have at_ : ∀ (i : Nat) (v : Value), its.toArray[i]? = some v → ∃ q p, v = .ref q ∧ ps[i]? = some p ∧ H q = some (.tup [.int p.1, .int p.2]) := fun i v e => by
    have e' : its[i]? = some v := by simpa using e
    have hi : i < items.length := by rw [rv.length]; exact (List.getElem?_eq_some_iff.mp e').1
    obtain ⟨u, hu', ru⟩ := rv.get (List.getElem?_eq_getElem hi)
    rw [e'] at hu'
    cases hu'
    obtain ⟨q, eq, hq⟩ := hp i _ _ (List.getElem?_eq_getElem hi) (List.getElem?_eq_getElem (by omega))
    rw [eq] at ru
    exact ⟨q, _, ru, List.getElem?_eq_getElem (by omega), hq⟩
  have hsz : its.toArray.size = ps.length := by rw [List.size_toArray, ← rv.length, hlen]
  refine PySem.call_min_walkH (iter_any hl fun s₂ e2 st hne => ?_)
  subst e2
  have W := (Walks.list (prog := X.prog) (w := X.w) (A := X.A.in1) (I.ok.hd hc) s.heap.objs.size a hne its.toArray).toS
  refine ⟨_, _, _, _, _, _, _, s.heap, fun i j => decide (f (ps.getD i (0, 0)) < f (ps.getD j (0, 0))), rfl, W, st, ?_, by rw [hsz]; exact hpos, ?_, ?_, ?_, fun v s' hP hm => ?_⟩
  · intro b hb
    simp only [List.mem_cons, List.not_mem_nil, or_false] at hb
    rcases hb with rfl | rfl
    · simp [Heap.push]
    · exact Nat.lt_of_lt_of_le (by obtain ⟨_, e, _⟩ := hl; exact Heap.lt_size e) (by simp [Heap.push])
  · intro b o e hb
    rw [List.mem_singleton.mp hb] at e
    exact Nat.lt_irrefl _ (Heap.lt_size e)
  · intro b o e
    exact Heap.get?_push_of_some _ e
  · intro i j vi vj s1 Q1 E1 hk ei ej hq
    obtain ⟨q1, p1, rfl, ep1, h1⟩ := at_ i vi ei
    obtain ⟨q2, p2, rfl, ep2, h2⟩ := at_ j vj ej
    obtain ⟨_, t1, r1, o1, g1, c1⟩ := (show ObjOk X.prog X.w H s.heap q1 (.tup _) from I.hok q1 _ h1)
    obtain ⟨_, t2, r2, o2, g2, c2⟩ := (show ObjOk X.prog X.w H s.heap q2 (.tup _) from I.hok q2 _ h2)
    have i1 : IntsAre t1.toArray.toList [p1.1, p1.2] := intsAre_of r1
    have i2 : IntsAre t2.toArray.toList [p2.1, p2.2] := intsAre_of r2
    have m1 : p1 ∈ ps := List.mem_of_getElem? ep1
    have m2 : p2 ∈ ps := List.mem_of_getElem? ep2
    show wpAny _ _ (compareOp .Lt (.ref q1) (.ref q2)) Q1 E1 s1
    refine HT.lt_tupInts ⟨o1, hk _ _ g1, c1⟩ ⟨o2, hk _ _ g2, c2⟩ i1 i2 (by show X.A.units + 1 < cLine; omega) ?_
    rw [hf p1 p2 m1 m2]
    have hq' : Q1 (Value.bool (decide (f (ps.getD i (0, 0)) < f (ps.getD j (0, 0))))) s1 := hq
    rw [List.getD_eq_getElem?_getD, List.getD_eq_getElem?_getD, ep1, ep2] at hq'
    exact hq'
  · obtain ⟨b1, b2⟩ := argBest_lt (fun i => f (ps.getD i (0, 0))) (its.toArray.size - 1)
    have hP' : its.toArray[argBest (fun i j => decide (f (ps.getD i (0, 0)) < f (ps.getD j (0, 0)))) (its.toArray.size - 1)]? = some v := hP
    generalize argBest (fun i j => decide (f (ps.getD i (0, 0)) < f (ps.getD j (0, 0)))) (its.toArray.size - 1) = k at hP' b1 b2
    obtain ⟨q1, p1, rfl, ep1, h1⟩ := at_ k v hP'
    have hit : items[k]? = some (.ref q1) := by
      have hk : k < items.length := by have := (List.getElem?_eq_some_iff.mp ep1).1; omega
      obtain ⟨q2, e2, h2⟩ := hp k _ _ (List.getElem?_eq_getElem hk) ep1
      obtain ⟨u, hu', ru⟩ := rv.get (List.getElem?_eq_getElem hk)
      have hP2 : its[k]? = some (Value.ref q1) := by simpa using hP'
      rw [hP2] at hu'
      cases hu'
      rw [e2] at ru
      have e3 : Value.ref q1 = Value.ref q2 := ru
      cases e3
      rw [List.getElem?_eq_getElem hk, e2]
    refine ⟨.ref q1, H, ?_, rfl, q k q1 p1 hit ep1 h1 fun p' hp' => ?_⟩
    · obtain ⟨h', g', d', t', o'⟩ := s'
      obtain ⟨m1, m2, m3, m4, m5⟩ := hm
      have e2 : g' = s.gens := m2
      have e3 : d' = s.drawn := m3
      have e4 : o' = s.os := m4
      subst e2 e3 e4
      refine I.kept fun b o e => m1 b o (fun hb => ?_) (Heap.get?_push_of_some _ e)
      rw [List.mem_singleton.mp hb] at e
      exact Nat.lt_irrefl _ (Heap.lt_size e)
    · obtain ⟨j, hj, e5⟩ := List.getElem_of_mem hp'
      have := b2 j (by omega)
      rw [List.getD_eq_getElem?_getD, List.getD_eq_getElem?_getD, ep1, List.getElem?_eq_getElem hj, e5] at this
      exact this
end Lc

namespace Lc
open PySem PySem.Spec PyProof.Rows L2
theorem low_char {r : Bool} {cs : List Int} {i : Nat} (h : cs[i]? = some (mn cs)) (h2 : ∀ j : Nat, cs[j]? = some (mn cs) → if r = true then j ≤ i else i ≤ j) : i = low r cs := by
  have hi : i < cs.length := (List.getElem?_eq_some_iff.mp h).1
  have hne : cs ≠ [] := fun e => by rw [e] at hi; simp at hi
  have g := low_get (r := r) hne
  have q := h2 _ g
  cases r with
  | false =>
    have q' : i ≤ low false cs := q
    by_cases e : i = low false cs
    · exact e
    · have lt : i < ix (mn cs) cs := by
        have : low false cs = ix (mn cs) cs := rfl
        omega
      exact absurd rfl (ix_first lt h)
  | true =>
    have q' : low true cs ≤ i := q
    by_cases e : i = low true cs
    · exact e
    · have el : low true cs = cs.length - 1 - ix (mn cs) cs.reverse := rfl
      have lt : cs.length - 1 - i < ix (mn cs) cs.reverse := by
        have := (List.getElem?_eq_some_iff.mp (ix_get (cs := cs.reverse) (List.mem_reverse.mpr (mn_spec hne).1))).1
        rw [List.length_reverse] at this
        omega
      have h3 : cs.reverse[cs.length - 1 - i]? = some (mn cs) := by
        rw [List.getElem?_reverse (by omega), show cs.length - 1 - (cs.length - 1 - i) = i by omega]
        exact h
      exact absurd rfl (ix_first lt h3)
/-- the pairs (height, side * place) of the columns -/
def prs (sd : Int) (cs : List Int) : List (Int × Int) := (List.range cs.length).map fun j => (cs.getD j 0, sd * (j : Int))
theorem prs_len (sd : Int) (cs : List Int) : (prs sd cs).length = cs.length := by unfold prs; rw [List.length_map, List.length_range]
theorem prs_get {sd : Int} {cs : List Int} {i : Nat} {p : Int × Int} (h : (prs sd cs)[i]? = some p) : ∃ c, cs[i]? = some c ∧ p = (c, sd * (i : Int)) := by
  have hi : i < cs.length := by rw [← prs_len sd cs]; exact (List.getElem?_eq_some_iff.mp h).1
  unfold prs at h
  rw [List.getElem?_map, List.getElem?_range hi] at h
  refine ⟨cs[i], List.getElem?_eq_getElem hi, ?_⟩
  have := Option.some.inj h
  rw [← this]
  show (cs.getD i 0, _) = _
  rw [List.getD_eq_getElem?_getD, List.getElem?_eq_getElem hi]
  rfl
theorem prs_at {sd : Int} {cs : List Int} {i : Nat} {c : Int} (h : cs[i]? = some c) : (prs sd cs)[i]? = some (c, sd * (i : Int)) := by
  have hi : i < cs.length := (List.getElem?_eq_some_iff.mp h).1
  unfold prs
  rw [List.getElem?_map, List.getElem?_range hi]
  show some (cs.getD i 0, _) = _
  rw [List.getD_eq_getElem?_getD, h]
  rfl
def ordP (p : Int × Int) : Int := p.1 * 64 + p.2
theorem side_abs {sd : Int} {j : Nat} (hs : sd = 1 ∨ sd = -1) (hj : j < 31) : -31 < sd * (j : Int) ∧ sd * (j : Int) < 31 := by
  rcases hs with rfl | rfl <;> omega
theorem lex_ord {a b c d : Int} (hb : -31 < b ∧ b < 31) (hd : -31 < d ∧ d < 31) : HT.lexLt [a, b] [c, d] = decide (ordP (a, b) < ordP (c, d)) := by
  show (if a = c then (if b = d then false else decide (b < d)) else decide (a < c)) = decide (a * 64 + b < c * 64 + d)
  by_cases h : a = c
  · rw [if_pos h]
    subst h
    by_cases h2 : b = d
    · rw [if_pos h2]; subst h2; exact (decide_eq_false (by omega)).symm
    · rw [if_neg h2]
      by_cases h3 : b < d
      · rw [decide_eq_true h3, decide_eq_true (by omega)]
      · rw [decide_eq_false h3, decide_eq_false (by omega)]
  · rw [if_neg h]
    by_cases h3 : a < c
    · rw [decide_eq_true h3, decide_eq_true (by omega)]
    · rw [decide_eq_false h3, decide_eq_false (by omega)]
theorem prs_ord {sd : Int} {cs : List Int} (hs : sd = 1 ∨ sd = -1) (hl : cs.length ≤ 30) {p p' : Int × Int} (h : p ∈ prs sd cs) (h' : p' ∈ prs sd cs) : HT.lexLt [p.1, p.2] [p'.1, p'.2] = decide (ordP p < ordP p') := by
  have rd : ∀ p ∈ prs sd cs, -31 < p.2 ∧ p.2 < 31 := fun p hp => by
    obtain ⟨j, hj, e⟩ := List.mem_map.mp hp
    rw [← e]
    exact side_abs hs (by have := List.mem_range.mp hj; omega)
  exact lex_ord (rd p h) (rd p' h')
/-- the least pair is that of the lowest column -/
theorem prs_low {sd : Int} {r : Bool} {cs : List Int} (hs : sd = 1 ∧ r = false ∨ sd = -1 ∧ r = true) (hl : cs.length ≤ 30) {i : Nat} {p : Int × Int} (h : (prs sd cs)[i]? = some p) (hm : ∀ p' ∈ prs sd cs, ordP p ≤ ordP p') :
    p = (mn cs, sd * ((low r cs : Nat) : Int)) := by
  obtain ⟨c, ec, rfl⟩ := prs_get h
  have hi : i < cs.length := (List.getElem?_eq_some_iff.mp ec).1
  have hs' : sd = 1 ∨ sd = -1 := hs.elim (fun h => .inl h.1) (fun h => .inr h.1)
  have ai := side_abs (j := i) hs' (by omega)
  have le : ∀ y ∈ cs, c ≤ y := fun y hy => by
    obtain ⟨j, hj, e⟩ := List.getElem_of_mem hy
    have aj := side_abs (j := j) hs' (by omega)
    have m := hm _ (List.mem_of_getElem? (prs_at (sd := sd) (List.getElem?_eq_getElem hj)))
    have m' : c * 64 + sd * (i : Int) ≤ cs[j] * 64 + sd * (j : Int) := m
    rw [← e]
    omega
  have em : mn cs = c := mn_eq (List.mem_of_getElem? ec) le
  have e : i = low r cs := by
    refine low_char (by rw [em]; exact ec) fun j hj => ?_
    rw [em] at hj
    have m := hm _ (List.mem_of_getElem? (prs_at (sd := sd) hj))
    have m' : c * 64 + sd * (i : Int) ≤ c * 64 + sd * (j : Int) := m
    rcases hs with ⟨rfl, rfl⟩ | ⟨rfl, rfl⟩
    · show i ≤ j; omega
    · show j ≤ i; omega
  rw [em, ← e]
theorem side_low {sd : Int} {r : Bool} {n : Nat} (hs : sd = 1 ∧ r = false ∨ sd = -1 ∧ r = true) : sd * (sd * (n : Int)) = (n : Int) := by
  rcases hs with ⟨rfl, _⟩ | ⟨rfl, _⟩ <;> omega
theorem eraseV : ∀ (ls : List Int) (j : Nat), (ls.map V.int).eraseIdx j = (ls.eraseIdx j).map V.int
  | [], _ => rfl
  | _ :: _, 0 => rfl
  | x :: ls, j + 1 => by
    show V.int x :: (ls.map V.int).eraseIdx j = V.int x :: (ls.eraseIdx j).map V.int
    rw [eraseV ls j]
end Lc

namespace Lc
open PySem PySem.Spec PyProof.Rows L2
/-! ### xs[a:c] = ys, the ends written or not -/
section
variable {prog : Program} {w : World} {A : Around} {E : Value → Shared → Prop} {s : Shared}
theorem setItem_cut {l b sl : Addr} {items new : Array Value} {n n2 : Nat} {vl vu : Value} {lo hi : Option Int} {a c : Nat} {Q : Unit → Shared → Prop}
    (e : s.heap.get? l = some { cls := .type "list", data := .seq items n })
    (e2 : s.heap.get? b = some { cls := .type "list", data := .seq new n2 }) (ne : l ≠ b) (hs : s.heap.IsSliceOf sl vl vu .none)
    (pl : IsPart vl lo) (pu : IsPart vu hi) (hbd : sliceBounds lo hi none items.size = ((a : Int), (c : Int), 1)) (hac : a ≤ c) (hc : c ≤ items.size)
    (hsz : items.size + new.size ≤ sizeLine)
    (h : Q () { s with heap := s.heap.update l (Obj.mapSeq fun xs => xs.extract 0 a ++ new ++ xs.extract c xs.size) }) :
    wpAny (model prog w) A (setItem (.ref l) (.ref sl) (.ref b)) Q E s := by
  have hl : s.heap.IsList l items := PySem.IsL.isList e
  have hb : s.heap.IsList b new := PySem.IsL.isList e2
  obtain ⟨os, hos, hcs, hds⟩ := id hs
  have hTs : s.TypeIs (.ref sl) "slice" := ⟨os, hos, hcs⟩
  have n1 : ¬ ((rawPart none == rawInt 0) = true) := Bool.false_ne_true
  have n2' : Builtin.List.listSameRef (.ref l) (.ref b) = false := by unfold Builtin.List.listSameRef; exact beq_eq_false_iff_ne.mpr ne
  have n3 : (max (a : Int) (c : Int)).toNat = c := by omega
  have n4 : ((fun xs : Array Value => xs.extract 0 a ++ new ++ xs.extract c xs.size) items).size ≤ sizeLine + 1 := by
    simp only [Array.size_append, Array.size_extract]; omega
  unfold setItem
  try with_reducible refine wpAny_holding ?_
  first | refine wpAny_bind (wpAny_pure ?_) | skip
  refine wpAny_bind (wpAny_sequenceKey hl.typeIs (by decide) (wpAny_bind (wpAny_callSpecial?_slot (name := Str.ofString "__setitem__") hl.typeIs slot_list_setitem (wpAny_call_entry slot_list_setitem hl.typeIs entry_list_setitem ?_ (args_list_setitem _ _ _)))))
  show wpAny _ _ (Builtin.List.listSubscript? (.ref sl) >>= _) _ _ s
  refine wpAny_bind ?_
  unfold Builtin.List.listSubscript?
  refine wpAny_bind (wpAny_specialOf hTs slice_no_index ?_)
  simp only [Option.isNone_none, if_true]
  refine wpAny_pure ?_
  show wpAny _ _ (typeOf (.ref sl) >>= _) _ _ s
  refine wpAny_bind (wpAny_typeOf hTs ?_)
  rw [if_neg (by decide)]
  rw [listSliceParts_eq]
  refine wpAny_bind (wpAny_bind (wpAny_field hos hds (x := .none) rfl (wpAny_bind (wpAny_listPart .none ?_)))); rw [if_neg n1]
  refine wpAny_bind (wpAny_field hos hds (x := vl) rfl (wpAny_bind (wpAny_listPart pl (wpAny_bind (wpAny_field hos hds (x := vu) rfl (wpAny_bind (wpAny_listPart pu (wpAny_pure ?_))))))))
  simp only [n2', Bool.false_eq_true, if_false]
  refine wpAny_bind (m := Builtin.List.listAllItems (.ref b) _) ?_
  unfold Builtin.List.listAllItems
  refine wpAny_bind (wpAny_typeOf hb.typeIs ?_)
  simp only [beq_self_eq_true, Bool.true_or, if_true]
  unfold Builtin.List.listItems
  refine wpAny_bind (wpAny_seqItems e2 rfl (wpAny_pure (wpAny_bind (wpAny_bind (wpAny_seqItems e rfl (wpAny_pure ?_))))))
  refine wpAny_bind (wpAny_of_eq ((sliceIndices_raw lo hi none items.size (by simp)).trans (congrArg pure hbd)) ?_)
  show wpAny _ _ (if ((1 : Int) == 1) = true then _ else _) _ _ s
  rw [if_pos (by decide)]
  refine wpAny_bind (wpAny_rule ?_)
  simp only [notLongL hsz, Bool.false_eq_true, if_false]
  first | refine wpAny_bind (wpAny_pure ?_) | skip
  show wpAny _ _ (updateSeq l (fun xs => xs.extract 0 ((a : Int)).toNat ++ new ++ xs.extract (max (a : Int) (c : Int)).toNat xs.size) >>= _) _ _ s
  rw [n3, Int.toNat_natCast]
  refine wpAny_bind (wpAny_updateSeq (hz := Nat.le_trans (Nat.le_add_right _ _) hsz) (_hz' := n4) e rfl (wpAny_bind (wpAny_letGo ?_)))
  first
    | exact wpAny_bind (wpAny_pure (wpAny_pure ⟨.none, rfl, wpAny_pure h⟩))
    | exact wpAny_pure ⟨.none, rfl, wpAny_pure h⟩
end
section
variable {X : Cx}
def gCut (to : TE) (tl th : TO) : TG := fun v σ H Q => to σ H fun x H1 => tl σ H1 fun lo H2 => th σ H2 fun hi H3 => ∃ (p b : Addr) (xs ys : List V) (a c : Nat), x = .ref p ∧ v = .ref b ∧ H3 p = some (.lst xs) ∧ H3 b = some (.lst ys) ∧ p ≠ b ∧
  sliceBounds lo hi none xs.length = ((a : Int), (c : Int), 1) ∧ a ≤ c ∧ c ≤ xs.length ∧ xs.length + ys.length ≤ sizeLine ∧ Q σ (upd H3 p (.lst (xs.take a ++ ys ++ xs.drop c)))
theorem pg_cut {o : Expr} {lo hi : Option Expr} {to : TE} {tl th : TO} {p2 pos : Pos} (ho : PE X o to) (hl : PO X lo tl) (hu : PO X hi th)
    (ha : ∀ v, assign (.Subscript o (.Slice lo hi none p2) pos) X.env v = (holding [v] (eval o X.env) >>= fun x => holding [v, x] (eval (.Slice lo hi none p2) X.env) >>= fun y =>
      standAt pos >>= fun _ => holding [v, x, y] (setItem x y v) >>= fun _ => release [y, v, x] []) := by intro _; rfl) : PG X (.Subscript o (.Slice lo hi none p2) pos) (gCut to tl th) := by
  refine ⟨fun pins s σ H v u Q I r h => ?_⟩
  rw [ha]
  refine wpAny_bind (wpAny_holding (thn (ho.run pins s σ H _ I h) fun ov s1 ⟨x, H1, I1, r1, q1⟩ => wpAny_bind (wpAny_holding ?_)))
  refine wpAny_Slice (thn (hl.run pins s1 σ H1 _ I1 q1) fun vl s2 ⟨l, H2, I2, pl, q2⟩ => thn (hu.run pins s2 σ H2 _ I2 q2) fun vu s3 ⟨t, H3, I3, pu, q3⟩ => ?_)
  rw [evalPart_none]
  refine wpAny_pure (wpAny_bind (wpAny_standAt (wpAny_bind (wpAny_holding ?_))))
  obtain ⟨p, b, xs, ys, a, c, rfl, rfl, hp, hb, ne, hbd, hac, hc, hz, q⟩ := q3
  have I4 : Inv X pins σ H3 { s3 with heap := s3.heap.push { cls := .type "slice", data := .fields #[vl, vu, .none] } } :=
    I3.kept (t' := s3.toks) fun b ob q => Heap.get?_push_of_some _ q
  obtain rfl : ov = Value.ref p := r1
  obtain rfl : u = Value.ref b := r
  obtain ⟨z1, its1, m1, r1, l1, g1⟩ := I4.lstM hp
  obtain ⟨z2, its2, m2, r2, l2, g2⟩ := I4.lstM hb
  refine setItem_cut (a := a) (c := c) g1 g2 ne (Heap.IsSliceOf.new ..) pl pu (by rw [List.size_toArray, ← l1]; exact hbd) hac (by rw [List.size_toArray, ← l1]; exact hc) (by rw [List.size_toArray, List.size_toArray, ← l1, ← l2]; exact hz) ?_
  refine wpAny_release ⟨σ, _, I4.lset (its' := its1.take a ++ its2 ++ its1.drop c) (t' := s3.toks) hp g1 (splice_eq its1 its2 a c) (Vals.append (Vals.append (r1.take _) r2) (r1.drop _)) ?_, q⟩
  rw [List.length_append, List.length_append, List.length_take, List.length_drop]
  omega
end
theorem bounds_from {k n : Nat} (h : k ≤ n) : sliceBounds (some (k : Int)) none none n = ((k : Int), (n : Int), 1) := by
  simp only [sliceBounds, Option.getD_none]
  have h1 : ¬ ((k : Int) < 0) := by omega
  simp only [h1, if_false, show (1 : Int) > 0 by decide, if_true]
  congr 1
  omega
theorem bounds_min {k n : Nat} : sliceBounds (some (k : Int)) none none n = (((min k n : Nat) : Int), (n : Int), 1) := by
  simp only [sliceBounds, Option.getD_none]
  have h1 : ¬ ((k : Int) < 0) := by omega
  simp only [h1, if_false, show (1 : Int) > 0 by decide, if_true]
  congr 1
  omega
end Lc

namespace Lc
open PySem PySem.Spec PyProof.Rows L2
/-- the cards among the first n in a column -/
def inCol (ps : List (Nat × Int)) (k n : Nat) : List Nat := (List.range n).filter fun j => decide ((ps.map (·.1))[j]? = some k)
theorem inCol_succ {ps : List (Nat × Int)} {k n : Nat} {p : Nat × Int} (h : ps[n]? = some p) : inCol ps k (n + 1) = if p.1 = k then inCol ps k n ++ [n] else inCol ps k n := by
  unfold inCol
  rw [List.range_succ, List.filter_append]
  have e : (ps.map (·.1))[n]? = some p.1 := by rw [List.getElem?_map, h]; rfl
  by_cases q : p.1 = k
  · rw [if_pos q]
    simp [e, q]
  · rw [if_neg q]
    simp [e, q]
theorem filter_two {α : Type} (p q : α → Bool) (d : ∀ x, p x = true → q x = false) : ∀ l : List α, (l.filter p ++ l.filter q).Perm (l.filter fun x => p x || q x)
  | [] => List.Perm.refl _
  | x :: l => by
    have ih := filter_two p q d l
    cases hp : p x with
    | true =>
      have hq := d x hp
      rw [List.filter_cons_of_pos hp, List.filter_cons_of_neg (by simp [hq]), List.filter_cons_of_pos (by simp [hp])]
      exact ih.cons x
    | false =>
      cases hq : q x with
      | true =>
        rw [List.filter_cons_of_neg (by simp [hp]), List.filter_cons_of_pos hq, List.filter_cons_of_pos (by simp [hq])]
        exact (List.perm_middle).trans (ih.cons x)
      | false =>
        rw [List.filter_cons_of_neg (by simp [hp]), List.filter_cons_of_neg (by simp [hq]), List.filter_cons_of_neg (by simp [hp, hq])]
        exact ih
/-- the columns one behind another -/
def cols (ps : List (Nat × Int)) (n : Nat) : Nat → List Nat
  | 0 => []
  | m + 1 => cols ps n m ++ inCol ps m n
def colB (ps : List (Nat × Int)) (m j : Nat) : Bool := match (ps.map (·.1))[j]? with
  | some c => decide (c < m)
  | none => false
theorem cols_perm0 (ps : List (Nat × Int)) (n : Nat) : ∀ m, (cols ps n m).Perm ((List.range n).filter (colB ps m))
  | 0 => by
    have : ((List.range n).filter (colB ps 0)) = [] := by
      rw [List.filter_eq_nil_iff]
      intro j _
      unfold colB
      cases (ps.map (·.1))[j]? <;> simp
    rw [this]
    exact List.Perm.refl _
  | m + 1 => by
    have ih := cols_perm0 ps n m
    refine (List.Perm.append_right _ ih).trans ?_
    refine (filter_two _ _ (fun j hj => ?_) (List.range n)).trans ?_
    · unfold colB at hj
      cases h : (ps.map (·.1))[j]? with
      | none => rw [h] at hj; cases hj
      | some c =>
        rw [h] at hj
        have : c < m := of_decide_eq_true hj
        simp
        omega
    · refine List.Perm.of_eq (List.filter_congr fun j _ => ?_)
      unfold colB
      cases h : (ps.map (·.1))[j]? with
      | none => simp
      | some c =>
        simp only [Option.some.injEq]
        by_cases h1 : c < m
        · simp [h1, Nat.lt_succ_of_lt h1]
        · by_cases h2 : c = m
          · simp [h2]
          · have : ¬ c < m + 1 := by omega
            simp [h1, h2, this]
theorem cols_len (ps : List (Nat × Int)) (n : Nat) : ∀ m, (cols ps n m).length ≤ n := fun m => by
  rw [(cols_perm0 ps n m).length_eq]
  have := List.length_filter_le (colB ps m) (List.range n)
  rw [List.length_range] at this
  exact this
theorem cols_all {ps : List (Nat × Int)} {m : Nat} (h : ∀ p ∈ ps, p.1 < m) : (cols ps ps.length m).Perm (List.range ps.length) := by
  refine (cols_perm0 ps ps.length m).trans (List.Perm.of_eq ?_)
  rw [List.filter_eq_self]
  intro j hj
  have hj' := List.mem_range.mp hj
  unfold colB
  rw [List.getElem?_map, List.getElem?_eq_getElem hj']
  exact decide_eq_true (h _ (List.getElem_mem hj'))
theorem fold_lt (r : Bool) (n : Nat) : ∀ (hs : List Int) (s : List (Nat × Int) × List Int), s.2 ≠ [] → s.2.length = n → (∀ p ∈ s.1, p.1 < n) → ∀ p ∈ (hs.foldl (put r) s).1, p.1 < n
  | [], s, _, _, h => h
  | x :: hs, s, hne, hl, h => fold_lt r n hs (put r s x) (put_ne hne) (by show (s.2.set _ _).length = n; rw [List.length_set]; exact hl) fun p hp => by
    have hp' : p ∈ s.1 ++ [(low r s.2, mn s.2)] := hp
    rcases List.mem_append.mp hp' with hp' | hp'
    · exact h p hp'
    · rw [List.mem_singleton.mp hp', ← hl]
      exact low_lt hne
theorem play_lt {r : Bool} {cs hs : List Int} (h : cs ≠ []) : ∀ p ∈ (play r cs hs).1, p.1 < cs.length := fold_lt r cs.length hs ([], cs) h rfl fun p h => by cases h
def nat2 (l : List Nat) : List Int := l.map fun j => ((j : Nat) : Int)
theorem nat2_append (a b : List Nat) : nat2 (a ++ b) = nat2 a ++ nat2 b := List.map_append ..
theorem nat2_small {l : List Nat} (h : ∀ j ∈ l, j ≤ 1000) : ∀ n ∈ nat2 l, n.natAbs < 10 ^ 90 := fun n hn => by
  obtain ⟨j, hj, rfl⟩ := List.mem_map.mp hn
  exact nat_pow_big (by omega) (by have := h j hj; omega)
theorem range_sorted (n : Nat) : Sorted (nat2 (List.range n)) := by
  unfold nat2 Sorted
  rw [List.pairwise_map]
  exact (List.pairwise_lt_range (n := n)).imp fun h => by omega
end Lc

namespace Lc
open PySem PySem.Spec PyProof.Rows L2
/-- a comprehension over zip of two lists of one length -/
theorem lc_zip {K : PySem.W.Frag} {a b D : Addr} {xs ys : List V} {g : TG} {tt : TT} {te : TE} {vs : List Nat} {σ : L2.St} {H0 : Hp} {Qd : Hp → Prop}
    (hle : xs.length = ys.length) (Pv : Nat → Hp → Prop) (h0 : Pv 0 (upd H0 D (.lst []))) (hl : ∀ i H, i ≤ xs.length → Pv i H → SqL K H a xs ∧ SqL K H b ys)
    (hs : ∀ i x y H T, xs[i]? = some x → ys[i]? = some y → Pv i H → H T = none → g (.ref T) (wipe σ vs) (upd H T (.tup [x, y])) fun σ2 H2 =>
      wipe σ2 vs = wipe σ vs ∧ tt σ2 H2 fun b H3 => if b = true then te σ2 H3 fun y H4 => ∃ acc, H4 D = some (.lst acc) ∧ acc.length < sizeLine ∧ Pv (i + 1) (upd H4 D (.lst (acc ++ [y]))) else Pv (i + 1) H3)
    (hd : ∀ H, Pv xs.length H → Qd H) :
    ∃ W : Nat → Nat → Hp → Prop, (∃ m, W 0 m (upd H0 D (.lst []))) ∧ ∀ i m H, W i m H →
      (((Itz K a b).stop i H ∧ Qd H) ∨ ((Itz K a b).go i H ∧ ∃ Nx : Hp → Prop, (∀ H', Nx H' → ∃ m', m' < m ∧ W (i + 1) m' H') ∧
        ∀ x H', (Itz K a b).yld i H x H' → g x (wipe σ vs) H' fun σ2 H2 => wipe σ2 vs = wipe σ vs ∧ tt σ2 H2 fun b H3 =>
          if b = true then te σ2 H3 fun y H4 => ∃ acc, H4 D = some (.lst acc) ∧ acc.length < sizeLine ∧ Nx (upd H4 D (.lst (acc ++ [y]))) else Nx H3)) := by
  refine ⟨fun i m H => m + i = xs.length ∧ Pv i H, ⟨xs.length, rfl, h0⟩, fun i m H hW => ?_⟩
  obtain ⟨em, p⟩ := hW
  have q := hl i H (by omega) p
  by_cases h : i < xs.length
  · refine .inr ⟨⟨xs, ys, xs[i], ys[i]'(by omega), q.1, q.2, List.getElem?_eq_getElem h, List.getElem?_eq_getElem (by omega)⟩, Pv (i + 1), fun H' p' => ⟨m - 1, by omega, by omega, p'⟩, fun v H' y => ?_⟩
    obtain ⟨T, x, z, e1, nT, e2, hx, hy⟩ := y
    subst e1
    subst e2
    exact hs i x z H T (hx xs q.1) (hy ys q.2) p nT
  · have e : i = xs.length := by omega
    subst e
    exact .inl ⟨⟨xs, ys, q.1, q.2, .inl (Nat.le_refl _)⟩, hd H p⟩
/-! changed lists -/
def insAt (l : List Int) (i : Nat) (x : Int) : List Int := l.take i ++ [x] ++ l.drop i
def delAt (l : List Int) (i : Nat) : List Int := l.take i ++ l.drop (i + 1)
def grow (a b : List Int) : List Int := (a.zip b).map fun p => p.2 - p.1
theorem insAt_len {l : List Int} {i : Nat} {x : Int} (h : i ≤ l.length) : (insAt l i x).length = l.length + 1 := by
  unfold insAt
  simp only [List.length_append, List.length_take, List.length_drop, List.length_cons, List.length_nil]
  omega
theorem delAt_len {l : List Int} {i : Nat} (h : i < l.length) : (delAt l i).length = l.length - 1 := by
  unfold delAt
  simp only [List.length_append, List.length_take, List.length_drop]
  omega
theorem mem_insAt {l : List Int} {i : Nat} {x y : Int} (h : y ∈ insAt l i x) : y = x ∨ y ∈ l := by
  unfold insAt at h
  rcases List.mem_append.mp h with h | h
  · rcases List.mem_append.mp h with h | h
    · exact .inr (List.mem_of_mem_take h)
    · exact .inl (List.mem_singleton.mp h)
  · exact .inr (List.mem_of_mem_drop h)
theorem mem_delAt {l : List Int} {i : Nat} {y : Int} (h : y ∈ delAt l i) : y ∈ l := by
  unfold delAt at h
  rcases List.mem_append.mp h with h | h
  · exact List.mem_of_mem_take h
  · exact List.mem_of_mem_drop h
theorem grow_len {a b : List Int} (h : a.length = b.length) : (grow a b).length = a.length := by
  unfold grow
  rw [List.length_map, List.length_zip]
  omega
theorem grow_take {a b : List Int} {i : Nat} {x y : Int} (h1 : a[i]? = some x) (h2 : b[i]? = some y) : (grow a b)[i]? = some (y - x) := by
  unfold grow
  rw [List.getElem?_map, (List.getElem?_zip_eq_some (z := (x, y))).mpr ⟨h1, h2⟩]
  rfl
def effIns (cs hs : List Int) (i : Nat) (h : Int) : List Int := grow (tops cs hs) (delAt (tops cs (insAt hs i h)) i)
def effRem (cs hs : List Int) (i : Nat) : List Int := grow (delAt (tops cs hs) i) (tops cs (delAt hs i))
def effMov (cs hs : List Int) (i j : Nat) (x : Int) : List Int := grow (delAt (tops cs hs) i) (delAt (tops cs (insAt (delAt hs i) j x)) j)
def effStr (cs hs : List Int) (i : Nat) (h : Int) : List Int := grow (tops cs hs) (tops cs (insAt (delAt hs i) i h))
def effExc (cs hs : List Int) (i : Nat) (x : Int) : List Int := grow (tops cs hs) (tops cs (insAt (delAt hs i) (i + 1) x))
end Lc

namespace Lc
open PySem PySem.Spec PyProof.Rows L2
/-! the greatest item; max with default= -/
def mx (l : List Int) : Int := - mn (l.map fun x => - x)
theorem mx_spec {l : List Int} (h : l ≠ []) : mx l ∈ l ∧ ∀ y ∈ l, y ≤ mx l := by
  have s := mn_spec (cs := l.map fun x => - x) (fun e => h (by simpa using e))
  obtain ⟨x, hx, e⟩ := List.mem_map.mp s.1
  refine ⟨?_, fun y hy => ?_⟩
  · have : mx l = x := by unfold mx; omega
    rw [this]; exact hx
  · have := s.2 (-y) (List.mem_map.mpr ⟨y, hy, rfl⟩)
    unfold mx; omega
theorem mx_eq {l : List Int} {m : Int} (h : m ∈ l) (h2 : ∀ y ∈ l, y ≤ m) : mx l = m := by
  have hn : l ≠ [] := fun e => by rw [e] at h; cases h
  have s := mx_spec hn
  exact Int.le_antisymm (h2 _ s.1) (s.2 m h)
theorem mx_in {cs : List Int} {lo hi : Int} (hne : cs ≠ []) (h : ∀ n ∈ cs, lo ≤ n ∧ n ≤ hi) : lo ≤ mx cs ∧ mx cs ≤ hi := h _ (mx_spec hne).1
theorem mn_in {cs : List Int} {lo hi : Int} (hne : cs ≠ []) (h : ∀ n ∈ cs, lo ≤ n ∧ n ≤ hi) : lo ≤ mn cs ∧ mn cs ≤ hi := h _ (mn_spec hne).1
def mxD (l : List Int) (d : Int) : Int := if l = [] then d else mx l
def rMaxKD (K : PySem.W.Frag) : List V → List V → Hp → VK → Prop := fun vs zs H Q => ∃ (a : Addr) (ns : List Int) (d : Int), vs = [V.ref a] ∧ zs = [V.int d] ∧ SqL K H a (ns.map V.int) ∧ Q (.int (mxD ns d)) H
theorem cr_maxKD {X : Cx} (hc : X.calm = true) : CallRK X (.builtin "max") [Str.ofString "default"] (rMaxKD X.K) := by
  intro pins s σ H vs zs us ws Q I r rz h
  obtain ⟨a, ns, d, rfl, rfl, hs, q⟩ := h
  obtain ⟨its, rv, pl, _⟩ := I.list hs
  rw [Vals.ref1 r]
  obtain ⟨w, rfl, hw⟩ := vals1 rz
  obtain ⟨t, rfl⟩ : ∃ t, w = Value.int d t := hw
  have hi : IntsAre its ns := rv.ints
  have hl := pl.isList
  obtain ⟨xs, e⟩ := hi.allInts.items
  have hn : numsOf (intItems xs).toList = ns := by rw [← e]; exact hi.numsOf
  rw [nums_intItems] at hn
  rw [e] at hl
  have hsz : (intItems xs).size = ns.length := by rw [← e, List.size_toArray, ← rv.length, List.length_map]
  have hsx : xs.size = ns.length := by rw [← hn, List.length_map, Array.length_toList]
  refine PySem.call_max_walkD (PySem.W.iter_listW (I.ok.hd hc) hl fun s₂ e2 W st hfp hw hk => ?_)
  refine ⟨_, _, _, _, _, _, _, s.heap, fun i j => decide (numAt xs i > numAt xs j), rfl, W, st, hfp, hw, hk, fun h0 s' m => ?_, fun h0 => ⟨fun i j vi vj s1 Q1 E1 _ e1 e3 hq => CmpOf.ints_gt (numAt xs) (fun _ _ => intItems_at) i j vi vj s1 Q1 E1 e1 e3 hq, fun v s' hP m => ?_⟩⟩
  · obtain ⟨h', tk, es, hkk⟩ := PySem.W.moved_old e2 rfl m
    have en : ns = [] := List.length_eq_zero_iff.mp (by omega)
    subst es
    refine ⟨.int d, H, I.kept hkk, ⟨t, rfl⟩, ?_⟩
    unfold mxD at q
    rwa [if_pos en] at q
  · obtain ⟨h', tk, es, hkk⟩ := PySem.W.moved_old e2 rfl m
    subst es
    have hP' : (intItems xs)[argBest (fun i j => decide (numAt xs i > numAt xs j)) (xs.size - 1)]? = some v := by
      rw [show (intItems xs).size = xs.size by rw [hsz, hsx]] at hP
      exact hP
    obtain ⟨t2, rfl⟩ := intItems_at hP'
    obtain ⟨h1, h2⟩ := argBest_gt (numAt xs) (xs.size - 1)
    have hpos : 0 < ns.length := by omega
    have em : mx ns = numAt xs (argBest (fun i j => decide (numAt xs i > numAt xs j)) (xs.size - 1)) := by
      refine mx_eq ?_ fun y hy => ?_
      · rw [numAt_eq, ← hn]; exact PySem.getD_mem (by rw [List.length_map, Array.length_toList]; omega)
      · rw [← hn] at hy
        obtain ⟨j, hj, rfl⟩ := mem_getD hy
        rw [List.length_map, Array.length_toList] at hj
        rw [← numAt_eq]; exact h2 j (by omega)
    refine ⟨.int _, H, I.kept hkk, ⟨t2, rfl⟩, ?_⟩
    unfold mxD at q
    rw [if_neg (fun z => by rw [z] at hpos; exact absurd hpos (by decide)), em] at q
    exact q
/-! the columns stand out by the greatest height at most -/
theorem fold_spread (r : Bool) (D : Int) : ∀ (hs : List Int) (s : List (Nat × Int) × List Int), s.2 ≠ [] → (∀ h ∈ hs, 0 ≤ h ∧ h ≤ D) → (∀ c ∈ s.2, c ≤ mn s.2 + D) → ∀ c ∈ (hs.foldl (put r) s).2, c ≤ mn (hs.foldl (put r) s).2 + D
  | [], s, _, _, hc => hc
  | h :: hs, s, hne, hp, hc => by
    obtain ⟨l, p1, p2⟩ := put_cols r s h hne
    have h0 := hp h List.mem_cons_self
    have m0 := mn_spec hne
    have m1 := mn_spec (put_ne (r := r) (h := h) hne)
    have up : mn s.2 ≤ mn (put r s h).2 := by
      rcases List.mem_cons.mp (p2.subset m1.1) with e | e
      · rw [e]; omega
      · exact m0.2 _ (p1.subset (List.mem_cons_of_mem _ e))
    refine fold_spread r D hs (put r s h) (put_ne hne) (fun x hx => hp x (List.mem_cons_of_mem _ hx)) fun c hcm => ?_
    rcases List.mem_cons.mp (p2.subset hcm) with e | e
    · rw [e]; omega
    · have := hc c (p1.subset (List.mem_cons_of_mem _ e)); omega
theorem perm_sum {a b : List Int} (p : a.Perm b) : a.sum = b.sum := by
  induction p with
  | nil => rfl
  | cons x _ ih => rw [List.sum_cons, List.sum_cons, ih]
  | swap x y l => rw [List.sum_cons, List.sum_cons, List.sum_cons, List.sum_cons]; omega
  | trans _ _ h1 h2 => exact h1.trans h2
theorem sum_le_mul {B : Int} : ∀ {l : List Int}, (∀ c ∈ l, c ≤ B) → l.sum ≤ l.length * B
  | [], _ => by simp
  | x :: l, h => by
    have h1 := h x List.mem_cons_self
    have h2 := sum_le_mul (B := B) (l := l) fun c hc => h c (List.mem_cons_of_mem _ hc)
    have e : (((x :: l).length : Nat) : Int) * B = (l.length : Int) * B + B := by
      rw [List.length_cons, Int.natCast_add, Int.add_mul]; simp
    rw [List.sum_cons, e]; omega
theorem mul_le_sum {B : Int} : ∀ {l : List Int}, (∀ c ∈ l, B ≤ c) → l.length * B ≤ l.sum
  | [], _ => by simp
  | x :: l, h => by
    have h1 := h x List.mem_cons_self
    have h2 := mul_le_sum (B := B) (l := l) fun c hc => h c (List.mem_cons_of_mem _ hc)
    have e : (((x :: l).length : Nat) : Int) * B = (l.length : Int) * B + B := by
      rw [List.length_cons, Int.natCast_add, Int.add_mul]; simp
    rw [List.sum_cons, e]; omega
/-- what lowest_bounds finds -/
def lbD (cs hs : List Int) : Int := if mx cs - mn cs > mxD hs 0 then mx cs - mn cs else mxD hs 0
def lbLo (cs hs : List Int) : Int := -(((((cs.length : Nat) : Int) - 1) * lbD cs hs - (ends cs hs).sum) / ((cs.length : Nat) : Int))
theorem lbD_le (cs hs : List Int) : mx cs - mn cs ≤ lbD cs hs ∧ mxD hs 0 ≤ lbD cs hs := by
  unfold lbD
  split <;> omega
theorem lbD_mem {cs hs : List Int} : (lbD cs hs = mx cs - mn cs) ∨ lbD cs hs = mxD hs 0 := by
  unfold lbD
  split <;> simp
/-- the bounds of a division up -/
theorem ceil_facts {n X q : Int} (hn : 0 < n) (e : q = X / n) : n * (-q - 1) < -X ∧ -X ≤ n * -q := by
  have h1 := Int.mul_ediv_self_le (x := X) (k := n) (by omega)
  have h2 := Int.lt_mul_ediv_self_add (x := X) (k := n) hn
  rw [← e] at h1 h2
  rw [Int.mul_sub, Int.mul_neg, Int.mul_one]
  omega
theorem floor_facts {n X q : Int} (hn : 0 < n) (e : q = X / n) : n * q ≤ X ∧ X < n * (q + 1) := by
  have h1 := Int.mul_ediv_self_le (x := X) (k := n) (by omega)
  have h2 := Int.lt_mul_ediv_self_add (x := X) (k := n) hn
  rw [← e] at h1 h2
  rw [Int.mul_add, Int.mul_one]
  omega
theorem low_within {es : List Int} {D : Int} (hne : es ≠ []) (h : ∀ c ∈ es, c ≤ mn es + D) : es.sum - (((es.length : Nat) : Int) - 1) * D ≤ ((es.length : Nat) : Int) * mn es ∧ ((es.length : Nat) : Int) * mn es ≤ es.sum := by
  refine ⟨?_, mul_le_sum (mn_spec hne).2⟩
  have m := (mn_spec hne).1
  have g := ix_get m
  have p := erase_perm es (ix (mn es) es) (mn es) g
  have hs := perm_sum p
  have hl := p.length_eq
  have hb := sum_le_mul (B := mn es + D) (l := es.eraseIdx (ix (mn es) es)) fun c hc => h c (p.subset (List.mem_cons_of_mem _ hc))
  generalize es.eraseIdx (ix (mn es) es) = l at p hs hl hb
  rw [List.sum_cons] at hs
  rw [List.length_cons] at hl
  have e1 : ((es.length : Nat) : Int) = (l.length : Int) + 1 := by omega
  rw [e1, show ((l.length : Int) + 1 - 1) = (l.length : Int) by omega, Int.add_mul, Int.one_mul]
  rw [Int.mul_add] at hb
  omega
/-! a start that is nowhere higher: no top is greater -/
def cnt (t : Int) (l : List Int) : Nat := l.countP fun c => decide (c ≤ t)
def Dom (A B : List Int) : Prop := ∀ t, cnt t A ≤ cnt t B
theorem cnt_perm {t : Int} {a b : List Int} (p : a.Perm b) : cnt t a = cnt t b := p.countP_eq _
theorem cnt_cons (t x : Int) (l : List Int) : cnt t (x :: l) = cnt t l + if x ≤ t then 1 else 0 := by
  unfold cnt
  rw [List.countP_cons]
  by_cases h : x ≤ t
  · rw [if_pos (by simpa using h), if_pos h]
  · rw [if_neg (by simpa using h), if_neg h]
theorem cnt_zero {t : Int} {l : List Int} (h : ∀ c ∈ l, t < c) : cnt t l = 0 := by
  unfold cnt
  rw [List.countP_eq_zero]
  intro c hc
  have := h c hc
  simp; omega
theorem Dom.mn {A B : List Int} (h : Dom A B) (hA : A ≠ []) : B ≠ [] ∧ mn B ≤ mn A := by
  have s := mn_spec hA
  have h1 : 0 < cnt (Lc.mn A) A := List.countP_pos_iff.mpr ⟨_, s.1, by simp⟩
  have h2 : 0 < cnt (Lc.mn A) B := Nat.lt_of_lt_of_le h1 (h _)
  obtain ⟨c, hc, hle⟩ := List.countP_pos_iff.mp h2
  have hB : B ≠ [] := fun e => by rw [e] at hc; cases hc
  have := (mn_spec hB).2 c hc
  exact ⟨hB, by have : c ≤ Lc.mn A := by simpa using hle
                omega⟩
theorem Dom.put {r r' : Bool} {s s' : List (Nat × Int) × List Int} {x : Int} (h : Dom s.2 s'.2) (h0 : 0 ≤ x) (hne : s.2 ≠ []) : Dom (put r s x).2 (Lc.put r' s' x).2 := by
  obtain ⟨hne', hm⟩ := h.mn hne
  obtain ⟨l, p1, p2⟩ := put_cols r s x hne
  obtain ⟨l', p1', p2'⟩ := put_cols r' s' x hne'
  intro t
  have ht := h t
  rw [← cnt_perm p1, ← cnt_perm p1', cnt_cons, cnt_cons] at ht
  rw [cnt_perm p2, cnt_perm p2', cnt_cons, cnt_cons]
  by_cases hmt : Lc.mn s.2 ≤ t
  · rw [if_pos hmt, if_pos (by omega)] at ht
    by_cases h1 : Lc.mn s.2 + x ≤ t
    · rw [if_pos h1, if_pos (by omega)]; omega
    · rw [if_neg h1]; omega
  · have z : cnt t l = 0 := cnt_zero fun c hc => by
      have := (mn_spec hne).2 c (p1.subset (List.mem_cons_of_mem _ hc))
      omega
    rw [z, if_neg (by omega)]
    omega
def Le2 (a b : List Int) : Prop := a.length = b.length ∧ ∀ p ∈ a.zip b, p.2 ≤ p.1
theorem Le2.snoc {a b : List Int} {x y : Int} (h : Le2 a b) (hxy : y ≤ x) : Le2 (a ++ [x]) (b ++ [y]) := by
  refine ⟨by rw [List.length_append, List.length_append, h.1]; rfl, fun p hp => ?_⟩
  rw [List.zip_append h.1] at hp
  rcases List.mem_append.mp hp with hp | hp
  · exact h.2 p hp
  · have : p = (x, y) := List.mem_singleton.mp hp
    rw [this]; exact hxy
theorem fold_dom (r r' : Bool) : ∀ (hs : List Int) (s s' : List (Nat × Int) × List Int), s.2 ≠ [] → (∀ h ∈ hs, 0 ≤ h) → Dom s.2 s'.2 → Le2 (s.1.map (·.2)) (s'.1.map (·.2)) →
    Le2 ((hs.foldl (put r) s).1.map (·.2)) ((hs.foldl (put r') s').1.map (·.2)) ∧ Dom (hs.foldl (put r) s).2 (hs.foldl (put r') s').2
  | [], s, s', _, _, d, e => ⟨e, d⟩
  | h :: hs, s, s', hne, hp, d, e => by
    refine fold_dom r r' hs (put r s h) (put r' s' h) (put_ne hne) (fun x hx => hp x (List.mem_cons_of_mem _ hx)) (d.put (hp h List.mem_cons_self) hne) ?_
    show Le2 ((s.1 ++ [(low r s.2, mn s.2)]).map (·.2)) ((s'.1 ++ [(low r' s'.2, mn s'.2)]).map (·.2))
    rw [List.map_append, List.map_append]
    exact e.snoc (d.mn hne).2
theorem tops_dom {cs cs' hs : List Int} (hne : cs ≠ []) (hp : ∀ h ∈ hs, 0 ≤ h) (d : Dom cs cs') : ∀ g ∈ grow (tops cs hs) (tops cs' hs), g ≤ 0 := by
  have q := (fold_dom false false hs ([], cs) ([], cs') hne hp d ⟨rfl, fun p hp => by cases hp⟩).1
  intro g hg
  unfold grow at hg
  obtain ⟨p, hpm, rfl⟩ := List.mem_map.mp hg
  have := q.2 p hpm
  omega
theorem dom_more (cs : List Int) (x : Int) : Dom cs (cs ++ [x]) := fun t => by
  unfold cnt
  rw [List.countP_append]
  omega
end Lc

namespace Lc
open PySem PySem.Spec PyProof.Rows L2
/-! walks: for over enumerate, a comprehension over zip of tuples -/
theorem for_enum {K : PySem.W.Frag} {a : Addr} {xs : List V} {g : TG} {tb : TS} {D : Ends} {σ : L2.St} {H : Hp} (Pv : Nat → L2.St → Hp → Prop) (h0 : Pv 0 σ H) (hl : ∀ i σ H, i ≤ xs.length → Pv i σ H → SqL K H a xs)
    (hs : ∀ i x σ H T, xs[i]? = some x → Pv i σ H → H T = none → g (.ref T) σ (upd H T (.tup [.int (i : Nat), x])) fun σ2 H2 => tb { D with nx := Pv (i + 1), ct := Pv (i + 1), bk := D.nx } σ2 H2) (hd : ∀ σ H, Pv xs.length σ H → D.nx σ H) :
    ∃ W : Nat → Nat → L2.St → Hp → Prop, (∃ m, W 0 m σ H) ∧ ∀ i m σ H, W i m σ H →
      ((Ite K a).stop i H ∧ D.nx σ H) ∨ ((Ite K a).go i H ∧ ∃ N : L2.St → Hp → Prop, (∀ σ' H', N σ' H' → ∃ m', m' < m ∧ W (i + 1) m' σ' H') ∧ ∀ x H', (Ite K a).yld i H x H' → g x σ H' fun σ2 H2 => tb { D with nx := N, ct := N, bk := D.nx } σ2 H2) :=
  for_it walk_enum Pv h0 hl (fun i x σ H H' hi p y => by
    obtain ⟨T, u, v, rfl, nT, rfl, e1, e2⟩ := y
    cases e1
    exact hs i v σ H T e2 p nT) hd
theorem walk_zipT {K : PySem.W.Frag} {a b : Addr} {xs ys : List V} {n : Nat} (hn : n = min xs.length ys.length) : Walk (RZ.ItzT K a b) n (fun H => SqT K H a xs ∧ SqT K H b ys) (YPair (fun i => xs[i]?) (fun i => ys[i]?)) := by
  subst hn
  refine ⟨fun i _ hi q => ?_, fun _ q => ⟨xs, ys, q.1, q.2, by omega⟩, fun i H v H' _ q y => ?_⟩
  · have h1 : i < xs.length := by omega
    have h2 : i < ys.length := by omega
    exact ⟨xs, ys, xs[i], ys[i], q.1, q.2, by simp [h1], by simp [h2]⟩
  · obtain ⟨T, x, z, h1, h2, h3, h4, h5⟩ := y
    exact ⟨T, x, z, h1, h2, h3, h4 xs q.1, h5 ys q.2⟩
theorem lc_zipT {K : PySem.W.Frag} {a b D : Addr} {xs ys : List V} {g : TG} {tt : TT} {te : TE} {vs : List Nat} {σ : L2.St} {H0 : Hp} {Qd : Hp → Prop}
    (hle : xs.length = ys.length) (Pv : Nat → Hp → Prop) (h0 : Pv 0 (upd H0 D (.lst []))) (hl : ∀ i H, i ≤ xs.length → Pv i H → SqT K H a xs ∧ SqT K H b ys)
    (hs : ∀ i x y H T, xs[i]? = some x → ys[i]? = some y → Pv i H → H T = none → g (.ref T) (wipe σ vs) (upd H T (.tup [x, y])) fun σ2 H2 =>
      wipe σ2 vs = wipe σ vs ∧ tt σ2 H2 fun b H3 => if b = true then te σ2 H3 fun y H4 => ∃ acc, H4 D = some (.lst acc) ∧ acc.length < sizeLine ∧ Pv (i + 1) (upd H4 D (.lst (acc ++ [y]))) else Pv (i + 1) H3)
    (hd : ∀ H, Pv xs.length H → Qd H) :
    ∃ W : Nat → Nat → Hp → Prop, (∃ m, W 0 m (upd H0 D (.lst []))) ∧ ∀ i m H, W i m H →
      (((RZ.ItzT K a b).stop i H ∧ Qd H) ∨ ((RZ.ItzT K a b).go i H ∧ ∃ Nx : Hp → Prop, (∀ H', Nx H' → ∃ m', m' < m ∧ W (i + 1) m' H') ∧
        ∀ x H', (RZ.ItzT K a b).yld i H x H' → g x (wipe σ vs) H' fun σ2 H2 => wipe σ2 vs = wipe σ vs ∧ tt σ2 H2 fun b H3 =>
          if b = true then te σ2 H3 fun y H4 => ∃ acc, H4 D = some (.lst acc) ∧ acc.length < sizeLine ∧ Nx (upd H4 D (.lst (acc ++ [y]))) else Nx H3)) :=
  lc_it (walk_zipT (n := xs.length) (by omega)) Pv h0 hl (fun i x H H' hi p y => by
    obtain ⟨T, u, v, rfl, nT, rfl, e1, e2⟩ := y
    exact hs i u v H T e1 e2 p nT) hd
/-! sorted lists, their differences place by place -/
def srt (l : List Int) : List Int := l.mergeSort fun a b => decide (a ≤ b)
theorem srt_perm (l : List Int) : (srt l).Perm l := List.mergeSort_perm _ _
theorem srt_sorted (l : List Int) : Sorted (srt l) := by
  have := List.pairwise_mergeSort (le := fun a b : Int => decide (a ≤ b)) (fun a b c h1 h2 => by simp at *; omega) (fun a b => by simp; omega) l
  exact this.imp fun h => by simpa using h
theorem srt_len (l : List Int) : (srt l).length = l.length := (srt_perm l).length_eq
theorem srt_eq {l m : List Int} (p : m.Perm l) (s : Sorted m) : m = srt l := sorted_uniq s (srt_sorted l) (p.trans (srt_perm l).symm)
theorem srt_of_perm {a b : List Int} (p : a.Perm b) : srt a = srt b := srt_eq ((srt_perm a).trans p) (srt_sorted a)
theorem srt_add (l : List Int) (m : Int) : (srt l).map (· + m) = srt (l.map (· + m)) := srt_eq ((srt_perm l).map _) (List.Pairwise.map _ (fun a b h => by show a + m ≤ b + m; omega) (srt_sorted l))
theorem grow_neg : ∀ a b : List Int, grow b a = (grow a b).map fun x => -x
  | [], b => by cases b <;> rfl
  | x :: a, [] => rfl
  | x :: a, y :: b => by
    have ih := grow_neg a b
    unfold grow at ih ⊢
    simp only [List.zip_cons_cons, List.map_cons, ih]
    rw [show x - y = -(y - x) by omega]
theorem grow_add (m : Int) : ∀ a b : List Int, grow a (b.map (· + m)) = (grow a b).map (· + m)
  | [], b => by cases b <;> rfl
  | x :: a, [] => rfl
  | x :: a, y :: b => by
    have ih := grow_add m a b
    unfold grow at ih ⊢
    simp only [List.zip_cons_cons, List.map_cons, ih]
    rw [show y + m - x = y - x + m by omega]
theorem mn_add {l : List Int} (h : l ≠ []) (m : Int) : mn (l.map (· + m)) = mn l + m := by
  have s := mn_spec h
  exact mn_eq (List.mem_map.mpr ⟨_, s.1, rfl⟩) fun y hy => by
    obtain ⟨z, hz, rfl⟩ := List.mem_map.mp hy
    have := s.2 z hz
    show mn l + m ≤ z + m
    omega
theorem mx_add {l : List Int} (h : l ≠ []) (m : Int) : mx (l.map (· + m)) = mx l + m := by
  have s := mx_spec h
  exact mx_eq (List.mem_map.mpr ⟨_, s.1, rfl⟩) fun y hy => by
    obtain ⟨z, hz, rfl⟩ := List.mem_map.mp hy
    have := s.2 z hz
    show z + m ≤ mx l + m
    omega
theorem mn_neg (l : List Int) : mn (l.map fun x => -x) = - mx l := by unfold mx; omega
theorem mx_neg (l : List Int) : mx (l.map fun x => -x) = - mn l := by
  unfold mx
  rw [List.map_map]
  have : ((fun x : Int => -x) ∘ fun x : Int => -x) = id := by funext x; show - -x = x; omega
  rw [this, List.map_id]
def gaps (a b : List Int) : List Int := grow (srt a) (srt b)
def gLo (a b : List Int) : Int := mn (gaps a b)
def gHi (a b : List Int) : Int := mx (gaps a b)
theorem gaps_len {a b : List Int} (h : a.length = b.length) : (gaps a b).length = a.length := by
  unfold gaps
  rw [grow_len (by rw [srt_len, srt_len, h]), srt_len]
theorem gaps_perm {a b a' b' : List Int} (p : a'.Perm a) (q : b'.Perm b) : gaps a' b' = gaps a b := by
  unfold gaps
  rw [srt_of_perm p, srt_of_perm q]
theorem gaps_neg (a b : List Int) : gaps b a = (gaps a b).map fun x => -x := grow_neg _ _
theorem gaps_add (a b : List Int) (m : Int) : gaps a (b.map (· + m)) = (gaps a b).map (· + m) := by
  unfold gaps
  rw [← srt_add, grow_add]
theorem gaps_ne {a b : List Int} (h : a.length = b.length) (ha : a ≠ []) : gaps a b ≠ [] := fun e => ha (List.length_eq_zero_iff.mp (by rw [← gaps_len h, e]; rfl))
theorem gaps_in {a b : List Int} {M : Int} (ha : ∀ x ∈ a, 0 ≤ x ∧ x ≤ M) (hb : ∀ x ∈ b, 0 ≤ x ∧ x ≤ M) : ∀ g ∈ gaps a b, -M ≤ g ∧ g ≤ M := fun g hg => by
  unfold gaps grow at hg
  obtain ⟨p, hp, rfl⟩ := List.mem_map.mp hg
  have z := List.of_mem_zip (show (p.1, p.2) ∈ (srt a).zip (srt b) from hp)
  have h1 := ha _ ((srt_perm a).subset z.1)
  have h2 := hb _ ((srt_perm b).subset z.2)
  omega
end Lc

namespace Lc
/-! ### observed tops: the mathematics -/
/-- can the top at i come behind the tops before it -/
def okAt (n : Nat) (ts : List Int) (i : Nat) : Bool :=
  if i < n then decide (ts.getD i 0 = 0) else decide (ts.getD (i - 1) 0 ≤ ts.getD i 0) && decide (ts.getD (i - n) 0 < ts.getD i 0)
/-- the first fault -/
def ff (n : Nat) (ts : List Int) : Option Nat := (List.range ts.length).find? fun i => !okAt n ts i
theorem ff_none {n : Nat} {ts : List Int} : ff n ts = none ↔ ∀ i, i < ts.length → okAt n ts i = true := by
  unfold ff
  rw [List.find?_range_eq_none]
  simp
theorem ff_some {n d : Nat} {ts : List Int} : ff n ts = some d ↔ d < ts.length ∧ okAt n ts d = false ∧ ∀ j, j < d → okAt n ts j = true := by
  unfold ff
  rw [List.find?_range_eq_some]
  simp only [List.mem_range, Bool.not_eq_true', Bool.not_not]
  constructor
  · rintro ⟨a, b, c⟩; exact ⟨b, a, c⟩
  · rintro ⟨a, b, c⟩; exact ⟨b, a, c⟩
theorem getD_take {ts : List Int} {d i : Nat} (h : i < d) : (ts.take d).getD i 0 = ts.getD i 0 := by
  rw [List.getD_eq_getElem?_getD, List.getD_eq_getElem?_getD, List.getElem?_take_of_lt h]
theorem okAt_take {n d i : Nat} {ts : List Int} (h : i < d) : okAt n (ts.take d) i = okAt n ts i := by
  unfold okAt
  rw [getD_take h, getD_take (show i - 1 < d by omega), getD_take (show i - n < d by omega)]
theorem ff_take_none {n d : Nat} {ts : List Int} (h : ff n ts = some d) : ff n (ts.take d) = none := by
  obtain ⟨a, b, c⟩ := ff_some.mp h
  refine ff_none.mpr fun i hi => ?_
  rw [List.length_take] at hi
  rw [okAt_take (by omega)]
  exact c i (by omega)
theorem ff_take_some {n d : Nat} {ts : List Int} (h : ff n ts = some d) : ff n (ts.take (d + 1)) = some d := by
  obtain ⟨a, b, c⟩ := ff_some.mp h
  refine ff_some.mpr ⟨by rw [List.length_take]; omega, ?_, fun j hj => ?_⟩
  · rw [okAt_take (by omega)]; exact b
  · rw [okAt_take (by omega)]; exact c j hj
/-- tops as they are handed in -/
structure IsTops (ts : List Int) : Prop where
  len : ts.length ≤ 200
  all : ∀ t ∈ ts, 0 ≤ t ∧ t ≤ 999999999999999999999999999999
theorem getD_mem {ts : List Int} {i : Nat} (h : i < ts.length) : ts.getD i 0 ∈ ts := by
  rw [List.getD_eq_getElem?_getD, List.getElem?_eq_getElem h]
  exact List.getElem_mem h
theorem getD_of {ts : List Int} {i : Nat} {x : Int} (h : ts[i]? = some x) : ts.getD i 0 = x := by
  rw [List.getD_eq_getElem?_getD, h]; rfl
theorem get_of_getD {ts : List Int} {i : Nat} (h : i < ts.length) : ts[i]? = some (ts.getD i 0) := by
  rw [List.getD_eq_getElem?_getD, List.getElem?_eq_getElem h]; rfl
/-- tops that can follow never descend -/
theorem ok_step {n : Nat} {ts : List Int} {i : Nat} (hn : 1 ≤ n) (h0 : 1 ≤ i) (hp : okAt n ts (i - 1) = true) (h : okAt n ts i = true) : ts.getD (i - 1) 0 ≤ ts.getD i 0 := by
  unfold okAt at h hp
  by_cases hi : i < n
  · rw [if_pos hi] at h
    rw [if_pos (by omega)] at hp
    have h := of_decide_eq_true h
    have hp := of_decide_eq_true hp
    omega
  · rw [if_neg hi] at h
    have := Bool.and_eq_true_iff.mp h
    exact of_decide_eq_true this.1
theorem ok_mono {n : Nat} {ts : List Int} {m : Nat} (hn : 1 ≤ n) (h : ∀ j, j ≤ m → okAt n ts j = true) : ∀ k a, a + k ≤ m → ts.getD a 0 ≤ ts.getD (a + k) 0
  | 0, a, _ => Int.le_refl _
  | k + 1, a, hk => by
    have ih := ok_mono hn h k a (by omega)
    have st := ok_step (i := a + (k + 1)) hn (by omega) (h _ (by omega)) (h _ hk)
    have e : a + (k + 1) - 1 = a + k := by omega
    rw [e] at st
    omega
theorem ok_le {n : Nat} {ts : List Int} {m a b : Nat} (hn : 1 ≤ n) (h : ∀ j, j ≤ m → okAt n ts j = true) (hab : a ≤ b) (hb : b ≤ m) : ts.getD a 0 ≤ ts.getD b 0 := by
  have := ok_mono hn h (b - a) a (by omega)
  rwa [show a + (b - a) = b by omega] at this
/-- the law's own look at one top -/
def bad1 (n : Nat) (ts : List Int) (i : Nat) : Bool := (decide (i < n) && decide (ts.getD i 0 ≠ 0)) || (decide (n ≤ i) && decide (ts.getD i 0 < 1))
def bad2 (n : Nat) (ts : List Int) (i : Nat) : Bool := (decide (0 < i) && decide (ts.getD i 0 < ts.getD (i - 1) 0)) || (decide (n ≤ i) && decide ((ts.drop (i - n)).take (n + 1) = List.replicate (n + 1) (ts.getD i 0)))
theorem bad_ok {n : Nat} {ts : List Int} {i : Nat} (hn : 1 ≤ n) (hi : i < ts.length) (h0 : ∀ t ∈ ts, 0 ≤ t) (h : ∀ j, j < i → okAt n ts j = true) : (bad1 n ts i || bad2 n ts i) = !okAt n ts i := by
  have hz : ∀ j, j < ts.length → 0 ≤ ts.getD j 0 := fun j hj => h0 _ (getD_mem hj)
  have g0 := hz i hi
  by_cases hin : i < n
  · have e1 : okAt n ts i = decide (ts.getD i 0 = 0) := by unfold okAt; rw [if_pos hin]
    rw [e1]
    by_cases hv : ts.getD i 0 = 0
    · have b1 : bad1 n ts i = false := by
        unfold bad1
        rw [hv]
        simp; omega
      have b2 : bad2 n ts i = false := by
        unfold bad2
        rw [show decide (n ≤ i) = false from decide_eq_false (by omega), Bool.false_and, Bool.or_false]
        by_cases hi0 : 0 < i
        · have := hz (i - 1) (by omega)
          have q := h (i - 1) (by omega)
          unfold okAt at q
          rw [if_pos (by omega)] at q
          have q := of_decide_eq_true q
          rw [q, hv]; simp
        · simp [hi0]
      rw [b1, b2, hv]; rfl
    · have b1 : bad1 n ts i = true := by
        unfold bad1
        rw [decide_eq_true hin, decide_eq_true hv]; rfl
      rw [b1, decide_eq_false hv]; rfl
  · have hni : n ≤ i := by omega
    have e1 : okAt n ts i = (decide (ts.getD (i - 1) 0 ≤ ts.getD i 0) && decide (ts.getD (i - n) 0 < ts.getD i 0)) := by unfold okAt; rw [if_neg hin]
    rw [e1]
    have gp := hz (i - n) (by omega)
    have gl := hz (i - 1) (by omega)
    have inc : ∀ a b, a ≤ b → b ≤ i - 1 → ts.getD a 0 ≤ ts.getD b 0 := fun a b hab hb => ok_le (m := i - 1) hn (fun j hj => h j (by omega)) hab hb
    by_cases hle : ts.getD (i - 1) 0 ≤ ts.getD i 0
    · by_cases hlt : ts.getD (i - n) 0 < ts.getD i 0
      · have b1 : bad1 n ts i = false := by
          unfold bad1
          rw [decide_eq_false hin, Bool.false_and, Bool.false_or, decide_eq_false (show ¬ ts.getD i 0 < 1 by omega), Bool.and_false]
        have b2 : bad2 n ts i = false := by
          unfold bad2
          rw [decide_eq_false (show ¬ ts.getD i 0 < ts.getD (i - 1) 0 by omega), Bool.and_false, Bool.false_or, decide_eq_true hni, Bool.true_and]
          refine decide_eq_false fun e => ?_
          have q := congrArg (fun l : List Int => l.getD 0 0) e
          have q1 : ((ts.drop (i - n)).take (n + 1)).getD 0 0 = ts.getD (i - n) 0 := by
            rw [getD_take (by omega), List.getD_eq_getElem?_getD, List.getElem?_drop, List.getD_eq_getElem?_getD]; rfl
          have q2 : (List.replicate (n + 1) (ts.getD i 0)).getD 0 0 = ts.getD i 0 := rfl
          have q' : ((ts.drop (i - n)).take (n + 1)).getD 0 0 = (List.replicate (n + 1) (ts.getD i 0)).getD 0 0 := q
          rw [q1, q2] at q'
          omega
        rw [b1, b2, decide_eq_true hle, decide_eq_true hlt]; rfl
      · rw [decide_eq_false hlt, Bool.and_false]
        have b2 : bad2 n ts i = true := by
          unfold bad2
          rw [decide_eq_true hni, Bool.true_and, Bool.or_eq_true]
          right
          refine decide_eq_true (List.ext_getElem? fun k => ?_)
          by_cases hk : k < n + 1
          · rw [List.getElem?_take_of_lt hk, List.getElem?_drop, List.getElem?_replicate, if_pos hk, get_of_getD (by omega)]
            have : ts.getD (i - n + k) 0 = ts.getD i 0 := by
              by_cases hkn : k = n
              · subst hkn; rw [show i - k + k = i by omega]
              · have a1 := inc (i - n) (i - n + k) (by omega) (by omega)
                have a2 := inc (i - n + k) (i - 1) (by omega) (by omega)
                omega
            rw [this]
          · rw [List.getElem?_eq_none (by rw [List.length_take]; omega), List.getElem?_eq_none (by rw [List.length_replicate]; omega)]
        rw [b2, Bool.or_true]; rfl
    · rw [decide_eq_false hle, Bool.false_and]
      have b2 : bad2 n ts i = true := by
        unfold bad2
        rw [decide_eq_true (show 0 < i by omega), decide_eq_true (show ts.getD i 0 < ts.getD (i - 1) 0 by omega)]; rfl
      rw [b2, Bool.or_true]; rfl
/-- tops that are possible -/
def Poss (n : Nat) (ts : List Int) : Prop := ∀ i, i < ts.length → okAt n ts i = true
theorem Poss.ff {n : Nat} {ts : List Int} (h : Poss n ts) : ff n ts = none := ff_none.mpr h
theorem poss_zeros {n m : Nat} (h : m ≤ n) : Poss n (List.replicate m 0) := fun i hi => by
  rw [List.length_replicate] at hi
  unfold okAt
  rw [if_pos (by omega)]
  refine decide_eq_true ?_
  rw [List.getD_eq_getElem?_getD, List.getElem?_replicate, if_pos hi]; rfl
theorem getD_append_left {a b : List Int} {i : Nat} (h : i < a.length) : (a ++ b).getD i 0 = a.getD i 0 := by
  rw [List.getD_eq_getElem?_getD, List.getD_eq_getElem?_getD, List.getElem?_append_left h]
theorem getD_rep {a : List Int} {m i : Nat} {x : Int} (h : a.length ≤ i) (h2 : i < a.length + m) : (a ++ List.replicate m x).getD i 0 = x := by
  rw [List.getD_eq_getElem?_getD, List.getElem?_append_right h, List.getElem?_replicate, if_pos (by omega)]; rfl
/-- one group more -/
theorem poss_group {n m : Nat} {ts : List Int} {x : Int} (hn : 1 ≤ n) (h : Poss n ts) (hl : n ≤ ts.length) (hm : m ≤ n) (hx : ∀ t ∈ ts, t < x) : Poss n (ts ++ List.replicate m x) := fun i hi => by
  rw [List.length_append, List.length_replicate] at hi
  by_cases hc : i < ts.length
  · have q := h i hc
    unfold okAt at q ⊢
    rw [getD_append_left hc, getD_append_left (show i - 1 < ts.length by omega), getD_append_left (show i - n < ts.length by omega)]
    exact q
  · unfold okAt
    rw [if_neg (by omega), getD_rep (by omega) hi, getD_append_left (show i - n < ts.length by omega)]
    have h1 := hx _ (getD_mem (show i - n < ts.length by omega))
    rw [decide_eq_true h1, Bool.and_true]
    refine decide_eq_true ?_
    by_cases hp : i - 1 < ts.length
    · rw [getD_append_left hp]
      have := hx _ (getD_mem hp)
      omega
    · rw [getD_rep (by omega) (by omega)]
      exact Int.le_refl _
end Lc
namespace Lc
open PySem PySem.Spec PyProof.Rows L2
theorem eqv_lst (ns ms : List Int) : PyData.eqv (.list (ns.map PyData.int)) (.list (ms.map PyData.int)) = decide (ns = ms) := by
  show PyData.eqvAll _ _ = _
  exact PySem.W.ked_eqvAll ns ms
/-- a test by its answer -/
theorem pt_of {t : TT} {σ : L2.St} {H : Hp} {k0 : Bool → Hp → Prop} (b : Bool) (h : ∀ k : Bool → Hp → Prop, (∀ H2, Same H H2 → k b H2) → t σ H k) (hk : ∀ H2, Same H H2 → k0 b H2) : t σ H k0 := h k0 hk
/-- if, by its test's answer -/
theorem seqIf {c : TT} {A B u : TS} {D : Ends} {σ : L2.St} {H : Hp} (b : Bool) (hc : ∀ k : Bool → Hp → Prop, (∀ H2, Same H H2 → k b H2) → c σ H k)
    (hk : ∀ H2, Same H H2 → if b = true then A { D with nx := fun σ' H' => u D σ' H' } σ H2 else B { D with nx := fun σ' H' => u D σ' H' } σ H2) : tSeq (tIfS c A B) u D σ H := hc _ hk
/-- if without else -/
theorem seqIf0 {c : TT} {A u : TS} {D : Ends} {σ : L2.St} {H : Hp} (b : Bool) (hc : ∀ k : Bool → Hp → Prop, (∀ H2, Same H H2 → k b H2) → c σ H k)
    (hk : ∀ H2, Same H H2 → if b = true then A { D with nx := fun σ' H' => u D σ' H' } σ H2 else u D σ H2) : tSeq (tIfS c A tNext) u D σ H := hc _ hk
theorem lastIf0 {c : TT} {A : TS} {D : Ends} {σ : L2.St} {H : Hp} (b : Bool) (hc : ∀ k : Bool → Hp → Prop, (∀ H2, Same H H2 → k b H2) → c σ H k)
    (hk : ∀ H2, Same H H2 → if b = true then A D σ H2 else D.nx σ H2) : tIfS c A tNext D σ H := hc _ hk
theorem lastIf {c : TT} {A B : TS} {D : Ends} {σ : L2.St} {H : Hp} (b : Bool) (hc : ∀ k : Bool → Hp → Prop, (∀ H2, Same H H2 → k b H2) → c σ H k)
    (hk : ∀ H2, Same H H2 → if b = true then A D σ H2 else B D σ H2) : tIfS c A B D σ H := hc _ hk
/-- a statement, then what follows, by what stands between them -/
theorem seqJ {c : TT} {A B u : TS} {D : Ends} {σ : L2.St} {H : Hp} (Inv : L2.St → Hp → Prop) (h1 : (∀ σ' H', Inv σ' H' → u D σ' H') → tIfS c A B { D with nx := u D } σ H) (h2 : ∀ σ' H', Inv σ' H' → u D σ' H') : tSeq (tIfS c A B) u D σ H := h1 h2
/-- a name is set -/
theorem setG {i : Nat} {x : V} {σ : L2.St} {H : Hp} {N : L2.St → Hp → Prop} {r : VK} {b c : L2.St → Hp → Prop} (h : N (σ.set i (some x)) H) : gName i x σ H (Ends.nx { nx := N, rt := r, bk := b, ct := c }) := h
theorem snoc_map (xs : List Int) (x : Int) : xs.map V.int ++ [V.int x] = (xs ++ [x]).map V.int := by rw [List.map_append]; rfl
/-- a comprehension over a list of ints -/
theorem map_lc {K : PySem.W.Frag} {a D : Addr} {ns : List Int} {te : TE} {j : Nat} {vs : List Nat} {σ : L2.St} {H : Hp} {Qd : Hp → Prop} (fn : Int → Int) (hA : SqL K H a (ns.map V.int)) (hl : ns.length ≤ 1000) (nD : H D = none)
    (hw : ∀ v, wipe ((wipe σ vs).set j (some v)) vs = wipe σ vs) (ht : ∀ x ∈ ns, ∀ (H' : Hp) (Q : VK), Q (.int (fn x)) H' → te ((wipe σ vs).set j (some (.int x))) H' Q)
    (k : ∀ H', Same H H' → H' D = some (.lst ((ns.map fn).map V.int)) → Qd H') :
    ∃ W : Nat → Nat → Hp → Prop, (∃ m, W 0 m (upd H D (.lst []))) ∧ ∀ i m H, W i m H →
      ((Itl K a).stop i H ∧ Qd H) ∨ ((Itl K a).go i H ∧ ∃ Nx : Hp → Prop, (∀ H', Nx H' → ∃ m', m' < m ∧ W (i + 1) m' H') ∧ ∀ x H', (Itl K a).yld i H x H' → gName j x (wipe σ vs) H' fun σ2 H2 => wipe σ2 vs = wipe σ vs ∧ tYes σ2 H2 fun b H3 =>
        if b = true then te σ2 H3 fun y H4 => ∃ acc, H4 D = some (.lst acc) ∧ acc.length < sizeLine ∧ Nx (upd H4 D (.lst (acc ++ [y]))) else Nx H3) := by
  refine lc_list (K := K) (a := a) (xs := ns.map V.int) (fun i H' => Same H H' ∧ H' D = some (.lst (((ns.map fn).take i).map V.int))) ⟨same_new _ nD, upd_same⟩ (fun i H' _ h => h.1.seq hA) (fun i v H' ev h => ?_) (fun H' h => ?_)
  · obtain ⟨x, ex, rfl⟩ := get_map ev
    refine ⟨hw _, ?_⟩
    show te ((wipe σ vs).set j (some (.int x))) H' _
    refine ht x (List.mem_of_getElem? ex) _ _ ⟨_, h.2, ?_, same_set h.1 nD, ?_⟩
    · rw [List.length_map, List.length_take]; exact small_of (m := 1000) (by rw [List.length_map]; omega) (by decide)
    · rw [upd_same]
      refine congrArg (fun z => some (HO.lst z)) (take_map_succ V.int ?_)
      rw [List.getElem?_map, ex]; rfl
  · obtain ⟨sm, eD⟩ := h
    have e1 : (ns.map V.int).length = (ns.map fn).length := by rw [List.length_map, List.length_map]
    rw [e1, List.take_length] at eD
    exact k H' sm eD
/-- a comprehension with a test over a list of ints -/
theorem fmap_lc {K : PySem.W.Frag} {a D : Addr} {ns : List Int} {tt : TT} {te : TE} {j : Nat} {vs : List Nat} {σ : L2.St} {H : Hp} {Qd : Hp → Prop} (fn : Int → Int) (pr : Int → Bool) (hA : SqL K H a (ns.map V.int)) (hl : ns.length ≤ 1000) (nD : H D = none)
    (hw : ∀ v, wipe ((wipe σ vs).set j (some v)) vs = wipe σ vs) (htt : ∀ x ∈ ns, ∀ (H' : Hp) (Q : Bool → Hp → Prop), Q (pr x) H' → tt ((wipe σ vs).set j (some (.int x))) H' Q) (ht : ∀ x ∈ ns, ∀ (H' : Hp) (Q : VK), Q (.int (fn x)) H' → te ((wipe σ vs).set j (some (.int x))) H' Q)
    (k : ∀ H', Same H H' → H' D = some (.lst (((ns.filter pr).map fn).map V.int)) → Qd H') :
    ∃ W : Nat → Nat → Hp → Prop, (∃ m, W 0 m (upd H D (.lst []))) ∧ ∀ i m H, W i m H →
      ((Itl K a).stop i H ∧ Qd H) ∨ ((Itl K a).go i H ∧ ∃ Nx : Hp → Prop, (∀ H', Nx H' → ∃ m', m' < m ∧ W (i + 1) m' H') ∧ ∀ x H', (Itl K a).yld i H x H' → gName j x (wipe σ vs) H' fun σ2 H2 => wipe σ2 vs = wipe σ vs ∧ tt σ2 H2 fun b H3 =>
        if b = true then te σ2 H3 fun y H4 => ∃ acc, H4 D = some (.lst acc) ∧ acc.length < sizeLine ∧ Nx (upd H4 D (.lst (acc ++ [y]))) else Nx H3) := by
  refine lc_list (K := K) (a := a) (xs := ns.map V.int) (fun i H' => Same H H' ∧ H' D = some (.lst ((((ns.take i).filter pr).map fn).map V.int))) ⟨same_new _ nD, upd_same⟩ (fun i H' _ h => h.1.seq hA) (fun i v H' ev h => ?_) (fun H' h => ?_)
  · obtain ⟨x, ex, rfl⟩ := get_map ev
    have e1 : ns.take (i + 1) = ns.take i ++ [x] := by rw [List.take_add_one, ex]; rfl
    refine ⟨hw _, ?_⟩
    show tt ((wipe σ vs).set j (some (.int x))) H' _
    refine htt x (List.mem_of_getElem? ex) _ _ ?_
    cases hp : pr x with
    | true =>
      refine ite_t rfl (ht x (List.mem_of_getElem? ex) _ _ ⟨_, h.2, ?_, same_set h.1 nD, ?_⟩)
      · rw [List.length_map, List.length_map]
        have := List.length_filter_le pr (ns.take i)
        rw [List.length_take] at this
        exact small_of (m := 1000) (by omega) (by decide)
      · rw [upd_same, e1, List.filter_append, List.filter_cons, if_pos hp, List.map_append, List.map_append]; rfl
    | false =>
      refine ite_f Bool.false_ne_true ⟨h.1, ?_⟩
      rw [e1, List.filter_append, List.filter_cons, if_neg (by rw [hp]; exact Bool.false_ne_true), List.filter_nil, List.append_nil]
      exact h.2
  · obtain ⟨sm, eD⟩ := h
    rw [List.length_map, List.take_length] at eD
    exact k H' sm eD
theorem ite_of {tt : Bool} {σ : L2.St} {H : Hp} {Q : VK} {c1 c2 : Int} (h : Q (.int (if tt = true then c1 else c2)) H) : if tt = true then tC (.int c1) σ H Q else tC (.int c2) σ H Q := by
  cases tt <;> exact h
theorem two_of {tt : Bool} {c1 c2 lo hi : Int} (h1 : lo ≤ c1 ∧ c1 ≤ hi) (h2 : lo ≤ c2 ∧ c2 ≤ hi) : ∃ N : Int, (if tt = true then c1 else c2) = N ∧ lo ≤ N ∧ N ≤ hi := by
  cases tt
  · exact ⟨c2, rfl, h2.1, h2.2⟩
  · exact ⟨c1, rfl, h1.1, h1.2⟩
end Lc

namespace Lc
/-! ### groups of equal tops -/
def flat (gs : List (Int × Nat)) : List Int := gs.flatMap fun g => List.replicate g.2 g.1
theorem flat_app (a b : List (Int × Nat)) : flat (a ++ b) = flat a ++ flat b := List.flatMap_append
theorem flat_one (v : Int) (s : Nat) : flat [(v, s)] = List.replicate s v := by
  unfold flat
  rw [List.flatMap_cons, List.flatMap_nil, List.append_nil]
def rlS (acc : List (Int × Nat)) (x : Int) : List (Int × Nat) := match acc.getLast? with
  | some g => if g.1 = x then acc.dropLast ++ [(g.1, g.2 + 1)] else acc ++ [(x, 1)]
  | none => [(x, 1)]
def rl (l : List Int) : List (Int × Nat) := l.foldl rlS []
theorem rl_snoc (l : List Int) (x : Int) : rl (l ++ [x]) = rlS (rl l) x := by
  unfold rl
  rw [List.foldl_append]; rfl
theorem snoc_ind {α : Type} {P : List α → Prop} (h0 : P []) (h1 : ∀ l x, P l → P (l ++ [x])) : ∀ l, P l := by
  intro l
  have h : ∀ k, k ≤ l.length → P (l.take k) := fun k => by
    induction k with
    | zero => intro _; exact h0
    | succ k ih =>
      intro hk
      have e : l.take (k + 1) = l.take k ++ [l[k]] := by rw [List.take_add_one, List.getElem?_eq_getElem (by omega)]; rfl
      rw [e]
      exact h1 _ _ (ih (by omega))
  have := h l.length (Nat.le_refl _)
  rwa [List.take_length] at this
theorem last_snoc {α : Type} (l : List α) (x : α) : (l ++ [x]).getLast? = some x := by simp
theorem rlS_last (acc : List (Int × Nat)) (x : Int) : ∃ s, (rlS acc x).getLast? = some (x, s) := by
  unfold rlS
  split
  · rename_i g hg
    split
    · rename_i h; exact ⟨_, by rw [last_snoc, h]⟩
    · exact ⟨_, last_snoc _ _⟩
  · exact ⟨1, rfl⟩
theorem drop_last_eq {α : Type} {l : List α} {x : α} (h : l.getLast? = some x) : l = l.dropLast ++ [x] := by
  have hne : l ≠ [] := fun e => by rw [e] at h; cases h
  have := List.dropLast_concat_getLast hne
  rw [List.getLast?_eq_getLast hne] at h
  rw [← Option.some.inj h]
  exact this.symm
theorem flat_rlS (acc : List (Int × Nat)) (x : Int) : flat (rlS acc x) = flat acc ++ [x] := by
  unfold rlS
  split
  · rename_i g hg
    split
    · rename_i h
      have e := drop_last_eq hg
      conv => rhs; rw [e]
      rw [flat_app, flat_app, flat_one, show flat [g] = List.replicate g.2 g.1 from flat_one _ _, List.append_assoc, List.replicate_succ', h]
    · rw [flat_app, flat_one]; rfl
  · rename_i hg
    have e : acc = [] := List.getLast?_eq_none_iff.mp hg
    rw [e, flat_one]; rfl
theorem flat_rl : ∀ l : List Int, flat (rl l) = l := snoc_ind rfl fun l x ih => by rw [rl_snoc, flat_rlS, ih]
theorem rl_pos : ∀ l : List Int, ∀ g ∈ rl l, 1 ≤ g.2 := snoc_ind (fun g h => by cases h) fun l x ih g hg => by
  rw [rl_snoc] at hg
  unfold rlS at hg
  split at hg
  · split at hg
    · rcases List.mem_append.mp hg with h | h
      · exact ih g (List.dropLast_subset _ h)
      · rw [List.mem_singleton.mp h]; show 1 ≤ _ + 1; omega
    · rcases List.mem_append.mp hg with h | h
      · exact ih g h
      · rw [List.mem_singleton.mp h]; exact Nat.le_refl 1
  · rw [List.mem_singleton.mp hg]; exact Nat.le_refl 1
/-- the last value -/
theorem rl_last (l : List Int) (x : Int) : ∃ s, (rl (l ++ [x])).getLast? = some (x, s) := by rw [rl_snoc]; exact rlS_last _ _
theorem rl_val : ∀ l : List Int, ∀ g ∈ rl l, g.1 ∈ l := fun l g hg => by
  have e := flat_rl l
  rw [← e]
  refine List.mem_flatMap.mpr ⟨g, hg, ?_⟩
  have := rl_pos l g hg
  exact List.mem_replicate.mpr ⟨by omega, rfl⟩
/-- the sizes, as a loop finds them -/
theorem sizes_same {l : List Int} {x y : Int} (h : l.getLast? = some y) (e : x = y) : (rl (l ++ [x])).map (·.2) = ((rl l).map (·.2)).dropLast ++ [((rl l).map (·.2)).getLastD 0 + 1] := by
  have el := drop_last_eq h
  obtain ⟨s, hs⟩ := rl_last l.dropLast y
  rw [← el] at hs
  rw [rl_snoc]
  unfold rlS
  rw [hs]
  show List.map (fun g : Int × Nat => g.2) (if y = x then (rl l).dropLast ++ [(y, s + 1)] else rl l ++ [(x, 1)]) = _
  rw [if_pos e.symm]
  have e2 := drop_last_eq hs
  conv => rhs; rw [e2]
  simp
theorem sizes_new {l : List Int} {x : Int} (h : ∀ y, l.getLast? = some y → x ≠ y) : (rl (l ++ [x])).map (·.2) = (rl l).map (·.2) ++ [1] := by
  rw [rl_snoc]
  unfold rlS
  cases hl : l.getLast? with
  | none =>
    have e : l = [] := List.getLast?_eq_none_iff.mp hl
    rw [e]; rfl
  | some y =>
    have el := drop_last_eq hl
    obtain ⟨s, hs⟩ := rl_last l.dropLast y
    rw [← el] at hs
    rw [hs]
    show List.map (fun g : Int × Nat => g.2) (if y = x then (rl l).dropLast ++ [(y, s + 1)] else rl l ++ [(x, 1)]) = _
    rw [if_neg (fun z => h y hl z.symm), List.map_append]; rfl
theorem rl_nil_of {l : List Int} (h : l ≠ []) : (rl l).map (·.2) ≠ [] := fun e => by
  have e2 : rl l = [] := List.map_eq_nil_iff.mp e
  have := flat_rl l
  rw [e2] at this
  exact h this.symm
/-- values rise -/
def Up (gs : List (Int × Nat)) : Prop := (gs.map (·.1)).Pairwise (· < ·)
theorem rl_up : ∀ l : List Int, l.Pairwise (· ≤ ·) → Up (rl l) := snoc_ind (fun _ => List.Pairwise.nil) fun l x ih hp => by
  have hp' := List.pairwise_append.mp hp
  have u := ih hp'.1
  have hx : ∀ y ∈ l, y ≤ x := fun y hy => hp'.2.2 y hy x (List.mem_singleton.mpr rfl)
  rw [rl_snoc]
  unfold rlS
  split
  · rename_i g hg
    have e := drop_last_eq hg
    split
    · rename_i h
      unfold Up at u ⊢
      rw [e, List.map_append] at u
      rw [List.map_append]
      exact u
    · rename_i h
      unfold Up at u ⊢
      rw [List.map_append]
      refine List.pairwise_append.mpr ⟨u, List.pairwise_singleton _ _, fun a ha b hb => ?_⟩
      have hb' : b = x := by simpa using hb
      subst hb'
      have hgx : g.1 < b := by
        have := hx g.1 (rl_val l g (by rw [e]; exact List.mem_append_right _ (List.mem_singleton.mpr rfl)))
        omega
      rw [e, List.map_append] at ha u
      rcases List.mem_append.mp ha with ha | ha
      · have := (List.pairwise_append.mp u).2.2 a ha g.1 (by simp)
        omega
      · have : a = g.1 := by simpa using ha
        omega
  · exact List.pairwise_singleton _ _
theorem flat_at {gs : List (Int × Nat)} {j : Nat} {g : Int × Nat} (h : gs[j]? = some g) : flat gs = flat (gs.take j) ++ (List.replicate g.2 g.1 ++ flat (gs.drop (j + 1))) := by
  have hj := (List.getElem?_eq_some_iff.mp h).1
  have e : gs = gs.take j ++ (g :: gs.drop (j + 1)) := by
    have e1 : gs.drop j = g :: gs.drop (j + 1) := by
      rw [List.drop_eq_getElem_cons hj, (List.getElem?_eq_some_iff.mp h).2]
    rw [← e1, List.take_append_drop]
  conv => lhs; rw [e]
  rw [flat_app]
  rfl
theorem flat_take_succ {gs : List (Int × Nat)} {j : Nat} {g : Int × Nat} (h : gs[j]? = some g) : flat (gs.take (j + 1)) = flat (gs.take j) ++ List.replicate g.2 g.1 := by
  rw [List.take_add_one, h]
  show flat (gs.take j ++ [g]) = _
  rw [flat_app]
  exact congrArg _ (flat_one _ _)
/-- what is ahead of a group is lower -/
theorem flat_low {gs : List (Int × Nat)} (u : Up gs) {j : Nat} {g : Int × Nat} (h : gs[j]? = some g) : ∀ t ∈ flat (gs.take j), t < g.1 := fun t ht => by
  obtain ⟨g', hg', ht'⟩ := List.mem_flatMap.mp ht
  rw [(List.mem_replicate.mp ht').2]
  have hj := (List.getElem?_eq_some_iff.mp h).1
  obtain ⟨i, hi, e⟩ := List.getElem_of_mem hg'
  have hij : i < j := by rw [List.length_take] at hi; omega
  have u' := List.pairwise_iff_getElem.mp u i j (by rw [List.length_map]; omega) (by rw [List.length_map]; omega) hij
  rw [List.getElem_map, List.getElem_map] at u'
  rw [List.getElem_take] at e
  rw [e, (List.getElem?_eq_some_iff.mp h).2] at u'
  exact u'
/-! ### possible tops by groups -/
theorem Poss.sorted {n : Nat} {ts : List Int} (hn : 1 ≤ n) (h : Poss n ts) : ts.Pairwise (· ≤ ·) := by
  refine List.pairwise_iff_getElem.mpr fun i j hi hj hij => ?_
  have := ok_le (n := n) (ts := ts) (m := ts.length - 1) (a := i) (b := j) hn (fun k hk => h k (by omega)) (by omega) (by omega)
  rw [List.getD_eq_getElem?_getD, List.getD_eq_getElem?_getD, List.getElem?_eq_getElem hi, List.getElem?_eq_getElem hj] at this
  exact this
theorem Poss.zero {n : Nat} {ts : List Int} (h : Poss n ts) {i : Nat} (hi : i < n) (hl : i < ts.length) : ts.getD i 0 = 0 := by
  have q := h i hl
  unfold okAt at q
  rw [if_pos hi] at q
  exact of_decide_eq_true q
theorem Poss.above {n : Nat} {ts : List Int} (hn : 1 ≤ n) (h : Poss n ts) {i : Nat} (hi : n ≤ i) (hl : i < ts.length) : 0 < ts.getD i 0 := by
  have q := h i hl
  unfold okAt at q
  rw [if_neg (by omega)] at q
  have q2 := of_decide_eq_true (Bool.and_eq_true_iff.mp q).2
  have z := h.zero (i := 0) (by omega) (by omega)
  have := ok_le (n := n) (ts := ts) (m := ts.length - 1) (a := 0) (b := i - n) hn (fun k hk => h k (by omega)) (by omega) (by omega)
  omega
theorem Poss.take0 {n : Nat} {ts : List Int} (h : Poss n ts) : ts.take n = List.replicate (min n ts.length) 0 := by
  refine List.ext_getElem? fun i => ?_
  by_cases hi : i < min n ts.length
  · rw [List.getElem?_take_of_lt (by omega), List.getElem?_replicate, if_pos hi, get_of_getD (by omega), h.zero (by omega) (by omega)]
  · rw [List.getElem?_eq_none (by rw [List.length_take]; omega), List.getElem?_eq_none (by rw [List.length_replicate]; omega)]
def grps (n : Nat) (ts : List Int) : List (Int × Nat) := rl (ts.drop n)
theorem Poss.up {n : Nat} {ts : List Int} (hn : 1 ≤ n) (h : Poss n ts) : Up (grps n ts) := rl_up _ ((h.sorted hn).sublist (List.drop_sublist ..))
theorem Poss.flat {n : Nat} {ts : List Int} : ts = ts.take n ++ flat (grps n ts) := by
  unfold grps
  rw [flat_rl, List.take_append_drop]
/-- no group has more tops than there are columns -/
theorem Poss.most {n : Nat} {ts : List Int} (hn : 1 ≤ n) (h : Poss n ts) : ∀ g ∈ grps n ts, g.2 ≤ n := fun g hg => by
  obtain ⟨j, hj, e⟩ := List.getElem_of_mem hg
  have hg' : (grps n ts)[j]? = some g := by rw [List.getElem?_eq_getElem hj, e]
  have e1 := flat_at hg'
  have ef : Lc.flat (grps n ts) = ts.drop n := flat_rl _
  rw [ef] at e1
  refine Nat.le_of_not_lt fun hlt => ?_
  have key : ∀ k, k < g.2 → (ts.drop n)[(Lc.flat ((grps n ts).take j)).length + k]? = some g.1 := fun k hk => by
    rw [e1, List.getElem?_append_right (by omega), Nat.add_sub_cancel_left, List.getElem?_append_left (by rw [List.length_replicate]; omega), List.getElem?_replicate, if_pos hk]
  generalize (Lc.flat ((grps n ts).take j)).length = p at key
  have a0 := key 0 (by omega)
  have an := key n hlt
  rw [List.getElem?_drop] at a0 an
  have hl := (List.getElem?_eq_some_iff.mp an).1
  have q := h _ hl
  unfold okAt at q
  rw [if_neg (by omega)] at q
  have q2 := of_decide_eq_true (Bool.and_eq_true_iff.mp q).2
  rw [getD_of an, show n + (p + n) - n = n + (p + 0) by omega, getD_of a0] at q2
  omega
/-! ### ways -/
structure IsWay (n : Nat) (ts ws : List Int) : Prop where
  len : ws.length = ts.length
  head : ws.take n = (List.range (min n ts.length)).map fun k => ((k : Nat) : Int)
  all : ∀ w ∈ ws, 0 ≤ w ∧ w < n
  asc : ∀ i, n ≤ i → i < ts.length → ts.getD (i - 1) 0 < ts.getD i 0 ∨ ws.getD (i - 1) 0 < ws.getD i 0
theorem way_few {n m : Nat} (h : m ≤ n) : IsWay n (List.replicate m 0) ((List.range m).map fun k => ((k : Nat) : Int)) := by
  refine ⟨by rw [List.length_map, List.length_range, List.length_replicate], ?_, fun w hw => ?_, fun i h1 h2 => ?_⟩
  · rw [List.length_replicate, Nat.min_eq_right h, List.take_of_length_le (by rw [List.length_map, List.length_range]; exact h)]
  · obtain ⟨k, hk, rfl⟩ := List.mem_map.mp hw
    have := List.mem_range.mp hk
    omega
  · rw [List.length_replicate] at h2; omega
/-- a group more -/
theorem way_group {n s : Nat} {ts ws cs : List Int} {v : Int} (hn : 1 ≤ n) (h : IsWay n ts ws) (hl : n ≤ ts.length) (hv : ∀ t ∈ ts, t < v) (hc : cs.length = s) (hr : ∀ c ∈ cs, 0 ≤ c ∧ c < n) (ha : cs.Pairwise (· < ·)) : IsWay n (ts ++ List.replicate s v) (ws ++ cs) := by
  have hlw := h.len
  refine ⟨by rw [List.length_append, List.length_append, List.length_replicate, hc, hlw], ?_, fun w hw => ?_, fun i h1 h2 => ?_⟩
  · rw [List.take_append_of_le_length (by omega), h.head, List.length_append, Nat.min_eq_left hl, Nat.min_eq_left (by omega)]
  · rcases List.mem_append.mp hw with hw | hw
    · exact h.all w hw
    · exact hr w hw
  · rw [List.length_append, List.length_replicate] at h2
    by_cases hi : i < ts.length
    · rw [getD_append_left hi, getD_append_left (show i - 1 < ts.length by omega), getD_append_left (show i < ws.length by omega), getD_append_left (show i - 1 < ws.length by omega)]
      exact h.asc i h1 hi
    · rw [getD_rep (by omega) h2]
      by_cases hp : i - 1 < ts.length
      · left
        rw [getD_append_left hp]
        exact hv _ (getD_mem hp)
      · right
        have e : ∀ k, ts.length ≤ k → k < ts.length + s → (ws ++ cs).getD k 0 = cs.getD (k - ts.length) 0 := fun k hk hk2 => by
          rw [List.getD_eq_getElem?_getD, List.getD_eq_getElem?_getD, List.getElem?_append_right (by omega), hlw]
        rw [e _ (by omega) (by omega), e _ (by omega) h2]
        have := List.pairwise_iff_getElem.mp ha (i - 1 - ts.length) (i - ts.length) (by omega) (by omega) (by omega)
        rw [List.getD_eq_getElem?_getD, List.getD_eq_getElem?_getD, List.getElem?_eq_getElem (by omega), List.getElem?_eq_getElem (by omega)]
        exact this
/-! ### the heights of the cards of a way -/
def nx (B : Int) (c : Int) : List (Int × Int) → Int
  | [] => B
  | p :: r => if p.1 = c then p.2 else nx B c r
/-- the item at i -/
def hwy (B : Int) (ts ws : List Int) (i : Nat) : Int := nx B (ws.getD i 0) ((ws.zip ts).drop (i + 1)) - ts.getD i 0
theorem zip_drop {ts ws : List Int} {i : Nat} (h : i < ts.length) (hl : ws.length = ts.length) : (ws.zip ts).drop i = (ws.getD i 0, ts.getD i 0) :: (ws.zip ts).drop (i + 1) := by
  have hz : i < (ws.zip ts).length := by rw [List.length_zip]; omega
  rw [List.drop_eq_getElem_cons hz, List.getElem_zip]
  rw [List.getD_eq_getElem?_getD, List.getD_eq_getElem?_getD, List.getElem?_eq_getElem (by omega), List.getElem?_eq_getElem h]
  rfl
theorem nx_filter (B c : Int) : ∀ ps : List (Int × Int), nx B c ps = (((ps.filter fun p => decide (p.1 = c)).map (·.2)) ++ [B]).headD 0
  | [] => rfl
  | p :: r => by
    unfold nx
    by_cases h : p.1 = c
    · rw [if_pos h, List.filter_cons, if_pos (decide_eq_true h)]; rfl
    · rw [if_neg h, List.filter_cons, if_neg (by simpa using h)]
      exact nx_filter B c r
end Lc

namespace Lc
def hsI (L i : Nat) (v : Nat → Int) : List Int := (List.range L).map fun k => if k < L - i then 0 else v k
theorem hsI_len (L i : Nat) (v : Nat → Int) : (hsI L i v).length = L := by unfold hsI; rw [List.length_map, List.length_range]
theorem hsI_zero (L : Nat) (v : Nat → Int) : hsI L 0 v = List.replicate L 0 := by
  refine List.ext_getElem? fun k => ?_
  unfold hsI
  by_cases h : k < L
  · rw [List.getElem?_map, List.getElem?_range h, List.getElem?_replicate, if_pos h]
    show some (if k < L - 0 then (0 : Int) else v k) = _
    rw [if_pos (by omega)]
  · rw [List.getElem?_eq_none (by rw [List.length_map, List.length_range]; omega), List.getElem?_eq_none (by rw [List.length_replicate]; omega)]
theorem hsI_all (L : Nat) (v : Nat → Int) : hsI L L v = (List.range L).map v := by
  unfold hsI
  refine List.map_congr_left fun k hk => ?_
  rw [if_neg (by omega)]
theorem hsI_set {L i : Nat} (v : Nat → Int) (h : i < L) : (hsI L i v).set (L - 1 - i) (v (L - 1 - i)) = hsI L (i + 1) v := by
  refine List.ext_getElem? fun k => ?_
  rw [List.getElem?_set]
  unfold hsI
  by_cases hk : k < L
  · by_cases e : L - 1 - i = k
    · rw [if_pos e, if_pos (by rw [List.length_map, List.length_range]; omega), List.getElem?_map, List.getElem?_range hk]
      show _ = some (if k < L - (i + 1) then (0 : Int) else v k)
      rw [if_neg (by omega), e]
    · rw [if_neg e, List.getElem?_map, List.getElem?_range hk, List.getElem?_map, List.getElem?_range hk]
      show some (if k < L - i then (0 : Int) else v k) = some (if k < L - (i + 1) then (0 : Int) else v k)
      by_cases q : k < L - i
      · rw [if_pos q, if_pos (by omega)]
      · rw [if_neg q, if_neg (by omega)]
  · rw [if_neg (by omega), List.getElem?_eq_none (by rw [List.length_map, List.length_range]; omega), List.getElem?_eq_none (by rw [List.length_map, List.length_range]; omega)]
def btI (B : Int) (n : Nat) (ps : List (Int × Int)) : List Int := (List.range n).map fun c => nx B ((c : Nat) : Int) ps
theorem btI_len (B : Int) (n : Nat) (ps : List (Int × Int)) : (btI B n ps).length = n := by unfold btI; rw [List.length_map, List.length_range]
theorem btI_get {B : Int} {n : Nat} {ps : List (Int × Int)} {c : Nat} (h : c < n) : (btI B n ps)[c]? = some (nx B ((c : Nat) : Int) ps) := by
  unfold btI
  rw [List.getElem?_map, List.getElem?_range h]; rfl
theorem btI_nil (B : Int) (n : Nat) : btI B n [] = List.replicate n B := by
  refine List.ext_getElem? fun k => ?_
  by_cases h : k < n
  · rw [btI_get h, List.getElem?_replicate, if_pos h]; rfl
  · rw [List.getElem?_eq_none (by rw [btI_len]; omega), List.getElem?_eq_none (by rw [List.length_replicate]; omega)]
theorem btI_cons {B t : Int} {n c : Nat} (h : c < n) (ps : List (Int × Int)) : btI B n ((((c : Nat) : Int), t) :: ps) = (btI B n ps).set c t := by
  refine List.ext_getElem? fun k => ?_
  rw [List.getElem?_set]
  by_cases hk : k < n
  · by_cases e : c = k
    · subst e
      rw [if_pos rfl, if_pos (by rw [btI_len]; exact h), btI_get h]
      show some (if ((c : Nat) : Int) = ((c : Nat) : Int) then t else _) = _
      rw [if_pos rfl]
    · rw [if_neg e, btI_get hk, btI_get hk]
      show some (if ((c : Nat) : Int) = ((k : Nat) : Int) then t else _) = _
      rw [if_neg (by omega)]
  · rw [if_neg (by omega), List.getElem?_eq_none (by rw [btI_len]; omega), List.getElem?_eq_none (by rw [btI_len]; omega)]
/-- the heights of the cards of a way: B ends the last ones -/
def cow (B : Int) (ts ws : List Int) : List Int := (List.range ts.length).map (hwy B ts ws)
theorem cow_len (B : Int) (ts ws : List Int) : (cow B ts ws).length = ts.length := by unfold cow; rw [List.length_map, List.length_range]
theorem nodup_range (m : Nat) : ((List.range m).map fun k => ((k : Nat) : Int)).Nodup := by
  refine List.Pairwise.map _ (fun a b h => ?_) (List.nodup_range (n := m))
  show ((a : Nat) : Int) ≠ ((b : Nat) : Int)
  omega
theorem up_of {cs : List Int} (s : cs.Pairwise (· ≤ ·)) (d : cs.Nodup) : cs.Pairwise (· < ·) := by
  refine List.pairwise_iff_getElem.mpr fun i j hi hj hij => ?_
  have a := List.pairwise_iff_getElem.mp s i j hi hj hij
  have b := List.pairwise_iff_getElem.mp d i j hi hj hij
  omega
theorem nx_in {B c lo hi : Int} (hB : lo ≤ B ∧ B ≤ hi) : ∀ ps : List (Int × Int), (∀ p ∈ ps, lo ≤ p.2 ∧ p.2 ≤ hi) → lo ≤ nx B c ps ∧ nx B c ps ≤ hi
  | [], _ => hB
  | p :: r, h => by
    unfold nx
    split
    · exact h p List.mem_cons_self
    · exact nx_in hB r fun x hx => h x (List.mem_cons_of_mem _ hx)
theorem cow_in {B lo hi : Int} {ts ws : List Int} (hB : lo ≤ B ∧ B ≤ hi) (h : ∀ t ∈ ts, lo ≤ t ∧ t ≤ hi) : ∀ c ∈ cow B ts ws, lo - hi ≤ c ∧ c ≤ hi - lo := fun c hc => by
  obtain ⟨i, hi', rfl⟩ := List.mem_map.mp hc
  have hil := List.mem_range.mp hi'
  unfold hwy
  have h1 := nx_in (c := ws.getD i 0) hB ((ws.zip ts).drop (i + 1)) fun p hp => h _ (List.of_mem_zip (List.mem_of_mem_drop hp : (p.1, p.2) ∈ ws.zip ts)).2
  have h2 := h _ (Lc.getD_mem hil)
  omega
end Lc
namespace Lc
open PySem PySem.Spec PyProof.Rows L2
theorem atI_lastD {ts : List Int} (hl : 0 < ts.length) : atI (ts.map V.int) (-1) = some (.int (ts.getD (ts.length - 1) 0)) := by
  have hne : ts ≠ [] := fun e => by rw [e] at hl; simp at hl
  have e := (List.dropLast_concat_getLast hne).symm
  have e2 : ts.getLast hne = ts.getD (ts.length - 1) 0 := by
    rw [List.getLast_eq_getElem, List.getD_eq_getElem?_getD, List.getElem?_eq_getElem (by omega)]; rfl
  rw [← e2]
  conv => lhs; rw [e, List.map_append]
  exact atI_last _ _
end Lc

namespace PySem.W
open PySem PySem.Calls
namespace MGC
theorem entry_comb : entryFor table "math.comb" = some Builtin.«math.comb» := entryFor_of_tree (by kernel_rfl)
theorem kind_comb : builtinKind "math.comb" = none := by kernel_rfl
theorem plain_comb : plainId "math.comb" = true := by decide +kernel
theorem args_comb (a b : Value) : argsOk "math.comb" ⟨[a, b], []⟩ := by unfold argsOk; kernel_rfl
end MGC
theorem mg_run_comb (a : Int) (t : Tok) (b : Int) (u : Tok) (hc0 : ¬ a < 0) (hc1 : ¬ b < 0) (hc2 : ¬ b > a) (hc3 : ¬ min b (a - b) > Builtin.Math.maxSsize) (hc4 : ¬ min b (a - b) > Builtin.Math.manyFactors) (hc5 : ¬ min b (a - b) > 9000)
    (hsz : (Builtin.Math.fallingProduct a (min b (a - b)).toNat / Builtin.Math.fallingProduct (min b (a - b)) (min b (a - b)).toNat).natAbs.log2 < bitsLine) :
    Gives (Builtin.«math.comb» ⟨[.int a t, .int b u], []⟩) (.int (Builtin.Math.fallingProduct a (min b (a - b)).toNat / Builtin.Math.fallingProduct (min b (a - b)) (min b (a - b)).toNat)) :=
  .of_wp fun M A E s Q h => by obtain ⟨hp, g, d, tk, os⟩ := s; wp_walk; (try (refine wpAny_ite_false (decide_eq_false (Nat.not_le.mpr hsz)) ?_; wp_walk)); exact ⟨_, rfl, h⟩
end PySem.W
namespace Lc
open PySem PySem.Spec PyProof.Rows L2
/-- the number of sets of k of n things -/
def bin : Nat → Nat → Nat
  | _, 0 => 1
  | 0, _ + 1 => 0
  | n + 1, k + 1 => bin n k + bin n (k + 1)
theorem comb_bin : ∀ a, a < 31 → ∀ b, b < a + 1 → (Builtin.Math.fallingProduct ((a : Nat) : Int) (min ((b : Nat) : Int) (((a : Nat) : Int) - ((b : Nat) : Int))).toNat / Builtin.Math.fallingProduct (min ((b : Nat) : Int) (((a : Nat) : Int) - ((b : Nat) : Int))) (min ((b : Nat) : Int) (((a : Nat) : Int) - ((b : Nat) : Int))).toNat) = ((bin a b : Nat) : Int) := by decide +kernel
theorem bin_small : ∀ a, a < 31 → ∀ b, b < a + 1 → bin a b < 1000000000 := by decide +kernel
def rComb : List V → Hp → VK → Prop := fun vs H Q => ∃ a b : Nat, vs = [.int (a : Nat), .int (b : Nat)] ∧ b ≤ a ∧ a ≤ 30 ∧ Q (.int ((bin a b : Nat) : Int)) H
theorem cr_comb {X : Cx} : CallR X (.builtin "math.comb") rComb := by
  intro pins s σ H vs us Q I r h
  obtain ⟨a, b, rfl, hb, ha, q⟩ := h
  obtain ⟨t, u, rfl⟩ := Vals.int2 r
  have e := comb_bin a (by omega) b (by omega)
  have sm := bin_small a (by omega) b (by omega)
  have hsz : (Builtin.Math.fallingProduct ((a : Nat) : Int) (min ((b : Nat) : Int) (((a : Nat) : Int) - ((b : Nat) : Int))).toNat / Builtin.Math.fallingProduct (min ((b : Nat) : Int) (((a : Nat) : Int) - ((b : Nat) : Int))) (min ((b : Nat) : Int) (((a : Nat) : Int) - ((b : Nat) : Int))).toNat).natAbs.log2 < bitsLine := by
    rw [e]
    refine Nat.lt_trans (PySem.Flt.log2_lt_of (k := 40) (by decide) ?_) (by decide +kernel)
    rw [Int.natAbs_natCast]
    exact Nat.lt_trans sm (by decide)
  have g := PySem.W.mg_run_comb ((a : Nat) : Int) t ((b : Nat) : Int) u (by omega) (by omega) (by omega) (by unfold Builtin.Math.maxSsize; omega) (by unfold Builtin.Math.manyFactors; omega) (by omega) hsz
  rw [e] at g
  exact PySem.call_function_meets PySem.W.MGC.kind_comb PySem.W.MGC.plain_comb PySem.W.MGC.entry_comb (PySem.W.MGC.args_comb _ _) g.meets ⟨.int _, H, I.tok _, ⟨_, rfl⟩, q⟩
end Lc

namespace Lc
/-! ### sets of columns by their index -/
theorem bin_zero (n : Nat) : bin n 0 = 1 := by cases n <;> rfl
theorem bin_succ (n k : Nat) : bin (n + 1) (k + 1) = bin n k + bin n (k + 1) := rfl
theorem bin_le : ∀ n k, n < k → bin n k = 0
  | 0, 0, h => absurd h (by omega)
  | 0, k + 1, _ => rfl
  | n + 1, 0, h => absurd h (by omega)
  | n + 1, k + 1, h => by rw [bin_succ, bin_le n k (by omega), bin_le n (k + 1) (by omega)]
theorem bin_self : ∀ n, bin n n = 1
  | 0 => rfl
  | n + 1 => by rw [bin_succ, bin_self n, bin_le n (n + 1) (by omega)]
theorem bin_one : ∀ n, bin n 1 = n
  | 0 => rfl
  | n + 1 => by rw [bin_succ, bin_zero, bin_one n]; omega
theorem bin_pos : ∀ n k, k ≤ n → 1 ≤ bin n k
  | n, 0, _ => by rw [bin_zero]; exact Nat.le_refl 1
  | 0, k + 1, h => absurd h (by omega)
  | n + 1, k + 1, h => by rw [bin_succ]; have := bin_pos n k (by omega); omega
/-- the set of k of the columns c, .., c + m - 1 with the index r -/
def ns : Nat → Int → Nat → Nat → List Int
  | _, _, 0, _ => []
  | 0, _, _ + 1, _ => []
  | m + 1, c, k + 1, r => if r < bin m k then c :: ns m (c + 1) k r else ns m (c + 1) (k + 1) (r - bin m k)
/-- the index of a set -/
def rs : Nat → Int → List Int → Nat
  | _, _, [] => 0
  | 0, _, _ :: _ => 0
  | m + 1, c, x :: xs => if c = x then rs m (c + 1) xs else bin m xs.length + rs m (c + 1) (x :: xs)
theorem ns_zero (m : Nat) (c : Int) (r : Nat) : ns m c 0 r = [] := by cases m <;> rfl
theorem ns_succ (m : Nat) (c : Int) (k r : Nat) : ns (m + 1) c (k + 1) r = if r < bin m k then c :: ns m (c + 1) k r else ns m (c + 1) (k + 1) (r - bin m k) := rfl
theorem rs_nil (m : Nat) (c : Int) : rs m c [] = 0 := by cases m <;> rfl
theorem rs_cons (m : Nat) (c x : Int) (xs : List Int) : rs (m + 1) c (x :: xs) = if c = x then rs m (c + 1) xs else bin m xs.length + rs m (c + 1) (x :: xs) := rfl
abbrev Asc (l : List Int) : Prop := l.Pairwise (· < ·)
structure IsSet (m : Nat) (c : Int) (k : Nat) (cs : List Int) : Prop where
  len : cs.length = k
  asc : Asc cs
  all : ∀ x ∈ cs, c ≤ x ∧ x < c + m
theorem IsSet.more {m k : Nat} {c : Int} {cs : List Int} (h : IsSet m (c + 1) k cs) : IsSet (m + 1) c k cs := ⟨h.len, h.asc, fun x hx => by have := h.all x hx; omega⟩
theorem IsSet.cons {m k : Nat} {c : Int} {cs : List Int} (h : IsSet m (c + 1) k cs) : IsSet (m + 1) c (k + 1) (c :: cs) := by
  refine ⟨by rw [List.length_cons, h.len], List.pairwise_cons.mpr ⟨fun x hx => ?_, h.asc⟩, fun x hx => ?_⟩
  · have := h.all x hx; omega
  · rcases List.mem_cons.mp hx with rfl | hx
    · omega
    · have := h.all x hx; omega
theorem ns_spec : ∀ (m k : Nat) (c : Int) (r : Nat), r < bin m k → IsSet m c k (ns m c k r) ∧ rs m c (ns m c k r) = r
  | m, 0, c, r, h => by
    rw [ns_zero]
    rw [bin_zero] at h
    exact ⟨⟨rfl, List.Pairwise.nil, fun x hx => by cases hx⟩, by rw [rs_nil]; omega⟩
  | 0, k + 1, c, r, h => by rw [bin_le 0 (k + 1) (by omega)] at h; omega
  | m + 1, k + 1, c, r, h => by
    rw [ns_succ]
    rw [bin_succ] at h
    by_cases hr : r < bin m k
    · rw [if_pos hr]
      obtain ⟨a, b⟩ := ns_spec m k (c + 1) r hr
      exact ⟨a.cons, by rw [rs_cons, if_pos rfl, b]⟩
    · rw [if_neg hr]
      obtain ⟨a, b⟩ := ns_spec m (k + 1) (c + 1) (r - bin m k) (by omega)
      refine ⟨a.more, ?_⟩
      generalize ns m (c + 1) (k + 1) (r - bin m k) = l at a b
      cases l with
      | nil => have := a.len; simp at this
      | cons x xs =>
        have hx := a.all x List.mem_cons_self
        have hl : xs.length = k := by have := a.len; rw [List.length_cons] at this; omega
        rw [rs_cons, if_neg (by omega), b, hl]
        omega
theorem IsSet.tail {m k : Nat} {c : Int} {cs : List Int} (h : IsSet (m + 1) c (k + 1) (c :: cs)) : IsSet m (c + 1) k cs := by
  have p := List.pairwise_cons.mp h.asc
  refine ⟨by have := h.len; rw [List.length_cons] at this; omega, p.2, fun x hx => ?_⟩
  have := p.1 x hx
  have := h.all x (List.mem_cons_of_mem _ hx)
  omega
theorem IsSet.rest {m k : Nat} {c x : Int} {cs : List Int} (h : IsSet (m + 1) c k (x :: cs)) (hx : c ≠ x) : IsSet m (c + 1) k (x :: cs) := by
  have p := List.pairwise_cons.mp h.asc
  have h0 := h.all x List.mem_cons_self
  refine ⟨h.len, h.asc, fun y hy => ?_⟩
  have h1 := h.all y hy
  rcases List.mem_cons.mp hy with rfl | hy
  · omega
  · have := p.1 y hy
    omega
theorem rs_spec : ∀ (m : Nat) (cs : List Int) (c : Int) (k : Nat), IsSet m c k cs → rs m c cs < bin m k ∧ ns m c k (rs m c cs) = cs
  | m, [], c, k, h => by
    have hk : k = 0 := h.len.symm
    subst hk
    rw [rs_nil, bin_zero, ns_zero]
    exact ⟨by omega, rfl⟩
  | 0, x :: xs, c, k, h => by have := h.all x List.mem_cons_self; omega
  | m + 1, x :: xs, c, k, h => by
    obtain ⟨k, rfl⟩ : ∃ j, k = j + 1 := ⟨k - 1, by have := h.len; rw [List.length_cons] at this; omega⟩
    rw [rs_cons]
    by_cases hc : c = x
    · subst hc
      rw [if_pos rfl]
      obtain ⟨a, b⟩ := rs_spec m xs (c + 1) k h.tail
      rw [bin_succ, ns_succ, if_pos a, b]
      exact ⟨by omega, rfl⟩
    · rw [if_neg hc]
      obtain ⟨a, b⟩ := rs_spec m (x :: xs) (c + 1) (k + 1) (h.rest hc)
      have hl : xs.length = k := by have := h.len; rw [List.length_cons] at this; omega
      rw [hl, bin_succ, ns_succ, if_neg (by omega), Nat.add_sub_cancel_left, b]
      exact ⟨by omega, rfl⟩
/-! ### ways of several groups -/
def cntW (n : Nat) (szs : List Nat) : Nat := szs.foldl (fun a s => a * bin n s) 1
theorem cntW_snoc (n : Nat) (szs : List Nat) (s : Nat) : cntW n (szs ++ [s]) = cntW n szs * bin n s := by unfold cntW; rw [List.foldl_append]; rfl
/-- the sets, by the groups -/
def wnR (n : Nat) : List Nat → Nat → List Int
  | [], _ => []
  | s :: rs, r => wnR n rs (r / bin n s) ++ ns n 0 s (r % bin n s)
/-- the columns of the way with the index r, behind the first ones -/
def wn (n : Nat) (szs : List Nat) (r : Nat) : List Int := wnR n szs.reverse r
theorem wn_snoc (n : Nat) (szs : List Nat) (s r : Nat) : wn n (szs ++ [s]) r = wn n szs (r / bin n s) ++ ns n 0 s (r % bin n s) := by
  unfold wn
  rw [List.reverse_append]; rfl
theorem wn_nil (n r : Nat) : wn n [] r = [] := rfl
/-- the index of what stands in l, by groups -/
def wr (n : Nat) (l : List Int) (szs : List Nat) : Nat × Nat := szs.foldl (fun p s => (p.1 * bin n s + rs n 0 ((l.drop p.2).take s), p.2 + s)) (0, 0)
theorem wr_snoc (n : Nat) (l : List Int) (szs : List Nat) (s : Nat) : wr n l (szs ++ [s]) = ((wr n l szs).1 * bin n s + rs n 0 ((l.drop (wr n l szs).2).take s), (wr n l szs).2 + s) := by
  unfold wr
  rw [List.foldl_append]; rfl
theorem wr_at (n : Nat) (l : List Int) : ∀ szs : List Nat, (wr n l szs).2 = szs.sum := by
  have : ∀ (szs : List Nat) (p : Nat × Nat), (szs.foldl (fun p s => (p.1 * bin n s + rs n 0 ((l.drop p.2).take s), p.2 + s)) p).2 = p.2 + szs.sum := fun szs => by
    induction szs with
    | nil => intro p; simp
    | cons s szs ih =>
      intro p
      rw [List.foldl_cons, ih, List.sum_cons]
      show p.2 + s + szs.sum = p.2 + (s + szs.sum)
      omega
  intro szs
  have := this szs (0, 0)
  unfold wr
  rw [this]; omega
/-- l is made of sets of these sizes -/
def IsSets (n : Nat) (l : List Int) : List Nat → Prop
  | [] => l = []
  | s :: szs => ∃ a b, l = a ++ b ∧ IsSet n 0 s a ∧ IsSets n b szs
theorem isSets_len {n : Nat} : ∀ {szs : List Nat} {l : List Int}, IsSets n l szs → l.length = szs.sum
  | [], l, h => by rw [show l = [] from h]; rfl
  | s :: szs, l, ⟨a, b, e, ha, hb⟩ => by rw [e, List.length_append, ha.len, isSets_len hb, List.sum_cons]
theorem isSets_snoc {n : Nat} : ∀ {szs : List Nat} {l c : List Int} {s : Nat}, IsSets n l szs → IsSet n 0 s c → IsSets n (l ++ c) (szs ++ [s])
  | [], l, c, s, h, hc => by
    rw [show l = [] from h]
    exact ⟨c, [], by simp, hc, rfl⟩
  | t :: szs, l, c, s, ⟨a, b, e, ha, hb⟩, hc => ⟨a, b ++ c, by rw [e, List.append_assoc], ha, isSets_snoc hb hc⟩
theorem isSets_unsnoc {n : Nat} : ∀ {szs : List Nat} {l : List Int} {s : Nat}, IsSets n l (szs ++ [s]) → ∃ a c, l = a ++ c ∧ IsSets n a szs ∧ IsSet n 0 s c
  | [], l, s, ⟨a, b, e, ha, hb⟩ => ⟨[], a, by rw [e, show b = [] from hb, List.append_nil]; rfl, rfl, ha⟩
  | t :: szs, l, s, ⟨a, b, e, ha, hb⟩ => by
    obtain ⟨a', c, e', h1, h2⟩ := isSets_unsnoc hb
    exact ⟨a ++ a', c, by rw [e, e', List.append_assoc], ⟨a, a', rfl, ha, h1⟩, h2⟩
theorem snocN_ind {P : List Nat → Prop} (h0 : P []) (h1 : ∀ l x, P l → P (l ++ [x])) : ∀ l, P l := by
  intro l
  have h : ∀ k, k ≤ l.length → P (l.take k) := fun k => by
    induction k with
    | zero => intro _; exact h0
    | succ k ih =>
      intro hk
      have e : l.take (k + 1) = l.take k ++ [l[k]] := by rw [List.take_add_one, List.getElem?_eq_getElem (by omega)]; rfl
      rw [e]
      exact h1 _ _ (ih (by omega))
  have := h l.length (Nat.le_refl _)
  rwa [List.take_length] at this
/-- what stands behind does not count -/
theorem wr_app (n : Nat) (l c : List Int) : ∀ szs : List Nat, szs.sum ≤ l.length → wr n (l ++ c) szs = wr n l szs := snocN_ind (fun _ => rfl) fun szs s ih h => by
  rw [List.sum_append] at h
  simp only [List.sum_cons, List.sum_nil] at h
  have e := ih (by omega)
  rw [wr_snoc, wr_snoc, e, wr_at]
  rw [List.drop_append_of_le_length (by omega), List.take_append_of_le_length (by rw [List.length_drop]; omega)]
theorem wn_spec (n : Nat) : ∀ (szs : List Nat) (r : Nat), r < cntW n szs → IsSets n (wn n szs r) szs ∧ (wr n (wn n szs r) szs).1 = r := snocN_ind (fun r h => by
    have : r = 0 := by unfold cntW at h; simp at h; omega
    subst this
    exact ⟨rfl, rfl⟩) fun szs s ih r h => by
  rw [cntW_snoc] at h
  have hb : 0 < bin n s := Nat.pos_of_ne_zero fun e => by rw [e, Nat.mul_zero] at h; omega
  obtain ⟨a, b⟩ := ih (r / bin n s) (Nat.div_lt_of_lt_mul (by rw [Nat.mul_comm]; exact h))
  obtain ⟨c, d⟩ := ns_spec n s 0 (r % bin n s) (Nat.mod_lt _ hb)
  rw [wn_snoc]
  refine ⟨isSets_snoc a c, ?_⟩
  rw [wr_snoc, wr_at, wr_app n _ _ szs (by rw [isSets_len a]; exact Nat.le_refl _), b]
  have hl := isSets_len a
  rw [List.drop_append_of_le_length (by omega), List.drop_of_length_le (by omega), List.nil_append, List.take_of_length_le (by rw [c.len]; exact Nat.le_refl _), d]
  have := Nat.div_add_mod r (bin n s)
  rw [Nat.mul_comm] at this
  exact this
theorem wr_spec (n : Nat) : ∀ (szs : List Nat) (l : List Int), IsSets n l szs → (wr n l szs).1 < cntW n szs ∧ wn n szs (wr n l szs).1 = l := snocN_ind (fun l h => by
    rw [show l = [] from h]
    exact ⟨Nat.zero_lt_one, rfl⟩) fun szs s ih l h => by
  obtain ⟨a, c, e, ha, hc⟩ := isSets_unsnoc h
  obtain ⟨h1, h2⟩ := ih a ha
  obtain ⟨h3, h4⟩ := rs_spec n c 0 s hc
  have hl := isSets_len ha
  subst e
  rw [wr_snoc, wr_at, wr_app n _ _ szs (by omega), List.drop_append_of_le_length (by omega), List.drop_of_length_le (by omega), List.nil_append, List.take_of_length_le (by rw [hc.len]; exact Nat.le_refl _)]
  show (wr n a szs).1 * bin n s + rs n 0 c < _ ∧ wn n (szs ++ [s]) ((wr n a szs).1 * bin n s + rs n 0 c) = _
  have hb : 0 < bin n s := by omega
  rw [cntW_snoc, wn_snoc]
  have e1 : ((wr n a szs).1 * bin n s + rs n 0 c) / bin n s = (wr n a szs).1 := by
    rw [Nat.mul_comm, Nat.mul_add_div hb, Nat.div_eq_of_lt h3]; omega
  have e2 : ((wr n a szs).1 * bin n s + rs n 0 c) % bin n s = rs n 0 c := by
    rw [Nat.mul_comm, Nat.mul_add_mod, Nat.mod_eq_of_lt h3]
  rw [e1, e2, h2, h4]
  refine ⟨?_, rfl⟩
  calc (wr n a szs).1 * bin n s + rs n 0 c < (wr n a szs).1 * bin n s + bin n s := by omega
    _ = ((wr n a szs).1 + 1) * bin n s := by rw [Nat.add_mul, Nat.one_mul]
    _ ≤ cntW n szs * bin n s := Nat.mul_le_mul_right _ h1
end Lc
namespace Lc
theorem pw_adj : ∀ {l : List Int}, (∀ i, i + 1 < l.length → l.getD i 0 < l.getD (i + 1) 0) → l.Pairwise (· < ·)
  | [], _ => List.Pairwise.nil
  | x :: l, h => by
    have ih := pw_adj (l := l) fun i hi => h (i + 1) (by rw [List.length_cons]; omega)
    refine List.pairwise_cons.mpr ⟨fun y hy => ?_, ih⟩
    cases l with
    | nil => cases hy
    | cons z zs =>
      have h0 := h 0 (by simp)
      have h0 : x < z := h0
      rcases List.mem_cons.mp hy with rfl | hy
      · exact h0
      · have := (List.pairwise_cons.mp ih).1 y hy
        omega
theorem getD_take' {l : List Int} {d i : Nat} (h : i < d) : (l.take d).getD i 0 = l.getD i 0 := getD_take h
theorem getD_drop {l : List Int} {d i : Nat} : (l.drop d).getD i 0 = l.getD (d + i) 0 := by
  rw [List.getD_eq_getElem?_getD, List.getD_eq_getElem?_getD, List.getElem?_drop]
theorem sets_of {n : Nat} : ∀ (gs : List (Int × Nat)) (l : List Int), l.length = (flat gs).length → (∀ x ∈ l, 0 ≤ x ∧ x < n) → (∀ i, i + 1 < l.length → (flat gs).getD i 0 < (flat gs).getD (i + 1) 0 ∨ l.getD i 0 < l.getD (i + 1) 0) → IsSets n l (gs.map (·.2))
  | [], l, hl, _, _ => List.length_eq_zero_iff.mp hl
  | g :: gs, l, hl, ha, hi => by
    have ef : flat (g :: gs) = List.replicate g.2 g.1 ++ flat gs := rfl
    have hll : l.length = g.2 + (flat gs).length := by rw [hl, ef, List.length_append, List.length_replicate]
    refine ⟨l.take g.2, l.drop g.2, (List.take_append_drop _ _).symm, ⟨by rw [List.length_take]; show min g.2 l.length = g.2; omega, pw_adj fun i h => ?_, fun x hx => ?_⟩, sets_of gs (l.drop g.2) (by rw [List.length_drop]; omega) (fun x hx => ha x (List.mem_of_mem_drop hx)) fun i h => ?_⟩
    · rw [List.length_take] at h
      rw [getD_take (by omega), getD_take (by omega)]
      refine (hi i (by omega)).resolve_left fun hlt => ?_
      have e : ∀ k, k < g.2 → (flat (g :: gs)).getD k 0 = g.1 := fun k hk => by
        rw [ef, List.getD_eq_getElem?_getD, List.getElem?_append_left (by rw [List.length_replicate]; exact hk), List.getElem?_replicate, if_pos hk]; rfl
      rw [e i (by omega), e (i + 1) (by omega)] at hlt
      omega
    · have := ha x (List.mem_of_mem_take hx)
      omega
    · rw [List.length_drop] at h
      have e : ∀ k, (flat (g :: gs)).getD (g.2 + k) 0 = (flat gs).getD k 0 := fun k => by
        rw [ef, List.getD_eq_getElem?_getD, List.getElem?_append_right (by rw [List.length_replicate]; omega), List.length_replicate, Nat.add_sub_cancel_left, List.getD_eq_getElem?_getD]
      have := hi (g.2 + i) (by omega)
      rw [e i, show g.2 + i + 1 = g.2 + (i + 1) by omega, e (i + 1)] at this
      rw [getD_drop, getD_drop]
      exact this
theorem way_sets {n : Nat} {ts ws : List Int} (hn : 1 ≤ n) (hw : IsWay n ts ws) : IsSets n (ws.drop n) ((grps n ts).map (·.2)) := by
  have hf : flat (grps n ts) = ts.drop n := by unfold grps; exact flat_rl _
  refine sets_of (grps n ts) (ws.drop n) (by rw [hf, List.length_drop, List.length_drop, hw.len]) (fun x hx => hw.all x (List.mem_of_mem_drop hx)) fun i hi => ?_
  rw [List.length_drop, hw.len] at hi
  rw [hf, getD_drop, getD_drop, getD_drop, getD_drop]
  have := hw.asc (n + (i + 1)) (by omega) (by omega)
  rw [show n + (i + 1) - 1 = n + i by omega] at this
  exact this
theorem sets_way {n : Nat} (hn : 1 ≤ n) : ∀ (gs : List (Int × Nat)) (ts ws l : List Int), IsWay n ts ws → n ≤ ts.length → Up gs → (∀ t ∈ ts, ∀ g ∈ gs, t < g.1) → IsSets n l (gs.map (·.2)) → IsWay n (ts ++ flat gs) (ws ++ l)
  | [], ts, ws, l, h, _, _, _, hs => by
    rw [show l = [] from hs, List.append_nil, show flat [] = [] from rfl, List.append_nil]
    exact h
  | g :: gs, ts, ws, l, h, hl, hu, hlow, ⟨a, b, e, ha, hb⟩ => by
    have hu' : Up gs := (List.pairwise_cons.mp hu).2
    have hg : ∀ g' ∈ gs, g.1 < g'.1 := fun g' hg' => (List.pairwise_cons.mp hu).1 g'.1 (List.mem_map_of_mem hg')
    have st := way_group (s := g.2) (v := g.1) (cs := a) hn h hl (fun t ht => hlow t ht g List.mem_cons_self) ha.len (fun c hc => by have := ha.all c hc; omega) ha.asc
    have ih := sets_way hn gs (ts ++ List.replicate g.2 g.1) (ws ++ a) b st (by rw [List.length_append]; omega) hu' (fun t ht g' hg' => by
      rcases List.mem_append.mp ht with ht | ht
      · exact hlow t ht g' (List.mem_cons_of_mem _ hg')
      · rw [(List.mem_replicate.mp ht).2]; exact hg g' hg') hb
    rw [e, show flat (g :: gs) = List.replicate g.2 g.1 ++ flat gs from rfl, ← List.append_assoc, ← List.append_assoc]
    exact ih
def rng (m : Nat) : List Int := (List.range m).map fun k => ((k : Nat) : Int)
/-- the way with an index -/
theorem way_of {n : Nat} {ts l : List Int} (hn : 1 ≤ n) (hp : Poss n ts) (hs : IsSets n l ((grps n ts).map (·.2))) : IsWay n ts (rng (min n ts.length) ++ l) := by
  by_cases hl : n ≤ ts.length
  · have ef : ts = ts.take n ++ flat (grps n ts) := Poss.flat
    have b : IsWay n (ts.take n) (rng (min n ts.length)) := by
      rw [hp.take0]
      exact way_few (by omega)
    have := sets_way hn (grps n ts) (ts.take n) (rng (min n ts.length)) l b (by rw [List.length_take]; omega) (hp.up hn) (fun t ht g hg => ?_) hs
    · rw [← ef] at this
      exact this
    · rw [hp.take0] at ht
      rw [(List.mem_replicate.mp ht).2]
      obtain ⟨k, hk, e⟩ := List.getElem_of_mem (rl_val _ g hg)
      rw [List.getElem_drop] at e
      rw [List.length_drop] at hk
      have := hp.above hn (i := n + k) (by omega) (by omega)
      rw [List.getD_eq_getElem?_getD, List.getElem?_eq_getElem (by omega), e] at this
      exact this
  · have e0 : grps n ts = [] := by
      unfold grps
      rw [List.drop_of_length_le (by omega)]; rfl
    rw [e0] at hs
    rw [show l = [] from hs, List.append_nil, Nat.min_eq_right (by omega)]
    have e1 : ts = List.replicate ts.length 0 := by
      have := hp.take0
      rw [List.take_of_length_le (by omega), Nat.min_eq_right (by omega)] at this
      exact this
    have := way_few (n := n) (m := ts.length) (by omega)
    rw [← e1] at this
    exact this
theorem IsWay.eq {n : Nat} {ts ws : List Int} (h : IsWay n ts ws) : ws = rng (min n ts.length) ++ ws.drop n := by
  conv => lhs; rw [← List.take_append_drop n ws, h.head]
  rfl
/-- the index of a way, the number of ways, the way with an index -/
def szs (n : Nat) (ts : List Int) : List Nat := (grps n ts).map (·.2)
def rankW (n : Nat) (ts ws : List Int) : Nat := (wr n (ws.drop n) (szs n ts)).1
def countW (n : Nat) (ts : List Int) : Nat := cntW n (szs n ts)
def nthW (n : Nat) (ts : List Int) (r : Nat) : List Int := rng (min n ts.length) ++ wn n (szs n ts) r
theorem rank_lt {n : Nat} {ts ws : List Int} (hn : 1 ≤ n) (hw : IsWay n ts ws) : rankW n ts ws < countW n ts := (wr_spec n _ _ (way_sets hn hw)).1
theorem nth_rank {n : Nat} {ts ws : List Int} (hn : 1 ≤ n) (hw : IsWay n ts ws) : nthW n ts (rankW n ts ws) = ws := by
  unfold nthW rankW szs
  rw [(wr_spec n _ _ (way_sets hn hw)).2]
  exact hw.eq.symm
theorem nth_way {n : Nat} {ts : List Int} (hn : 1 ≤ n) (hp : Poss n ts) {r : Nat} (hr : r < countW n ts) : IsWay n ts (nthW n ts r) := way_of hn hp (wn_spec n _ r hr).1
theorem rank_nth {n : Nat} {ts : List Int} (hn : 1 ≤ n) (hl : n ≤ ts.length ∨ szs n ts = []) {r : Nat} (hr : r < countW n ts) : rankW n ts (nthW n ts r) = r := by
  unfold nthW rankW
  rcases hl with hl | hl
  · rw [List.drop_append_of_le_length (by unfold rng; rw [List.length_map, List.length_range]; omega), List.drop_of_length_le (by unfold rng; rw [List.length_map, List.length_range]; omega), List.nil_append]
    exact (wn_spec n _ r hr).2
  · unfold countW at hr
    rw [hl] at hr ⊢
    have : r = 0 := by unfold cntW at hr; simp at hr; omega
    rw [this]; rfl
theorem szs_few {n : Nat} {ts : List Int} (h : ts.length ≤ n) : szs n ts = [] := by
  unfold szs grps
  rw [List.drop_of_length_le h]; rfl
theorem szs_or {n : Nat} {ts : List Int} : n ≤ ts.length ∨ szs n ts = [] := by
  by_cases h : n ≤ ts.length
  · exact .inl h
  · exact .inr (szs_few (by omega))
theorem count_pos {n : Nat} {ts : List Int} (hn : 1 ≤ n) (hp : Poss n ts) : 1 ≤ countW n ts := by
  unfold countW szs
  have := hp.most hn
  generalize grps n ts = gs at this
  have h : ∀ (gs : List (Int × Nat)) (a : Nat), 1 ≤ a → (∀ g ∈ gs, g.2 ≤ n) → 1 ≤ ((gs.map (·.2)).foldl (fun a s => a * bin n s) a) := fun gs => by
    induction gs with
    | nil => intro a ha _; exact ha
    | cons g gs ih =>
      intro a ha hg
      refine ih _ ?_ fun x hx => hg x (List.mem_cons_of_mem _ hx)
      exact Nat.mul_pos ha (bin_pos n g.2 (hg g List.mem_cons_self))
  exact h gs 1 (Nat.le_refl 1) this
end Lc
namespace Lc
theorem isSet_le {m k : Nat} {c : Int} {cs : List Int} (h : IsSet m c k cs) : k ≤ m := by
  have := (rs_spec m cs c k h).1
  refine Nat.le_of_not_lt fun hlt => ?_
  rw [bin_le m k hlt] at this
  omega
theorem sets_at {n : Nat} : ∀ {sz : List Nat} {l : List Int}, IsSets n l sz → ∀ (j s : Nat), sz[j]? = some s → IsSet n 0 s ((l.drop (sz.take j).sum).take s) ∧ (sz.take j).sum + s ≤ l.length
  | [], _, _, _, _, h => by cases h
  | t :: sz, l, ⟨a, b, e, ha, hb⟩, 0, s, h => by
    cases h
    rw [List.take_zero, List.sum_nil, List.drop_zero, e, List.take_append_of_le_length (by rw [ha.len]; exact Nat.le_refl _), List.take_of_length_le (by rw [ha.len]; exact Nat.le_refl _)]
    exact ⟨ha, by rw [List.length_append, ha.len]; omega⟩
  | t :: sz, l, ⟨a, b, e, ha, hb⟩, j + 1, s, h => by
    obtain ⟨q1, q2⟩ := sets_at hb j s (by simpa using h)
    rw [List.take_succ_cons, List.sum_cons, e, ← ha.len, List.drop_append, List.drop_of_length_le (by omega), List.nil_append, Nat.add_sub_cancel_left]
    exact ⟨q1, by rw [List.length_append]; omega⟩
end Lc
namespace Lc
open PySem PySem.Spec PyProof.Rows L2
theorem for_rev {K : PySem.W.Frag} {a : Addr} {xs : List V} {g : TG} {tb : TS} {D : Ends} {σ : L2.St} {H : Hp} (Pv : Nat → L2.St → Hp → Prop) (h0 : Pv 0 σ H) (hl : ∀ i σ H, i ≤ xs.length → Pv i σ H → SqL K H a xs)
    (hs : ∀ i x σ H, i < xs.length → xs[xs.length - 1 - i]? = some x → Pv i σ H → g x σ H fun σ2 H2 => tb { D with nx := Pv (i + 1), ct := Pv (i + 1), bk := D.nx } σ2 H2) (hd : ∀ σ H, Pv xs.length σ H → D.nx σ H) :
    ∃ W : Nat → Nat → L2.St → Hp → Prop, (∃ m, W 0 m σ H) ∧ ∀ i m σ H, W i m σ H →
      ((Itv K a xs.length).stop i H ∧ D.nx σ H) ∨ ((Itv K a xs.length).go i H ∧ ∃ N : L2.St → Hp → Prop, (∀ σ' H', N σ' H' → ∃ m', m' < m ∧ W (i + 1) m' σ' H') ∧ ∀ x H', (Itv K a xs.length).yld i H x H' → g x σ H' fun σ2 H2 => tb { D with nx := N, ct := N, bk := D.nx } σ2 H2) :=
  for_it walk_rev Pv h0 hl (fun i x σ H H' hi p y => by
    obtain ⟨rfl, e⟩ := y
    exact hs i x σ _ hi e p) hd
end Lc

namespace Lc
/-! ### tops put together -/
theorem okAt_map {n : Nat} {ts : List Int} {φ : Int → Int} (h0 : φ 0 = 0) (hm : ∀ x ∈ ts, ∀ y ∈ ts, x < y → φ x < φ y) (hz : ∀ x ∈ ts, 0 ≤ x) (hz2 : ∀ x ∈ ts, x ≠ 0 → φ x ≠ 0) {i : Nat} (hi : i < ts.length) : okAt n (ts.map φ) i = okAt n ts i := by
  have e : ∀ k, k < ts.length → (ts.map φ).getD k 0 = φ (ts.getD k 0) := fun k hk => by
    rw [List.getD_eq_getElem?_getD, List.getD_eq_getElem?_getD, List.getElem?_map, List.getElem?_eq_getElem hk]; rfl
  have m : ∀ k, k < ts.length → ts.getD k 0 ∈ ts := fun k hk => Lc.getD_mem hk
  have mono : ∀ a b, a < ts.length → b < ts.length → (decide (φ (ts.getD a 0) < φ (ts.getD b 0)) = decide (ts.getD a 0 < ts.getD b 0)) := fun a b ha hb => by
    by_cases h : ts.getD a 0 < ts.getD b 0
    · rw [decide_eq_true h, decide_eq_true (hm _ (m a ha) _ (m b hb) h)]
    · rw [decide_eq_false h, decide_eq_false fun h2 => ?_]
      by_cases h3 : ts.getD b 0 < ts.getD a 0
      · have := hm _ (m b hb) _ (m a ha) h3; omega
      · rw [show ts.getD a 0 = ts.getD b 0 by omega] at h2; omega
  have le : ∀ a b, a < ts.length → b < ts.length → (decide (φ (ts.getD a 0) ≤ φ (ts.getD b 0)) = decide (ts.getD a 0 ≤ ts.getD b 0)) := fun a b ha hb => by
    have := mono b a hb ha
    have q : ∀ x y : Int, decide (x ≤ y) = !decide (y < x) := fun x y => by by_cases h : x ≤ y <;> simp [h] <;> omega
    rw [q, q, this]
  unfold okAt
  by_cases hin : i < n
  · rw [if_pos hin, if_pos hin, e i hi]
    by_cases hv : ts.getD i 0 = 0
    · rw [hv, h0]
    · rw [decide_eq_false hv, decide_eq_false (hz2 _ (m i hi) hv)]
  · rw [if_neg hin, if_neg hin, e i hi, e (i - 1) (by omega), e (i - n) (by omega), le (i - 1) i (by omega) hi, mono (i - n) i (by omega) hi]
theorem poss_map {n : Nat} {ts : List Int} {φ : Int → Int} (h0 : φ 0 = 0) (hm : ∀ x ∈ ts, ∀ y ∈ ts, x < y → φ x < φ y) (hz : ∀ x ∈ ts, 0 ≤ x) (hz2 : ∀ x ∈ ts, x ≠ 0 → φ x ≠ 0) (h : Poss n ts) : Poss n (ts.map φ) := fun i hi => by
  rw [List.length_map] at hi
  rw [okAt_map h0 hm hz hz2 hi]
  exact h i hi
/-- sizes do not feel what the values are -/
theorem rl_map {φ : Int → Int} : ∀ l : List Int, (∀ x ∈ l, ∀ y ∈ l, x ≠ y → φ x ≠ φ y) → rl (l.map φ) = (rl l).map fun g => (φ g.1, g.2) := snoc_ind (fun _ => rfl) fun l x ih h => by
  have i := ih fun a ha b hb => h a (List.mem_append_left _ ha) b (List.mem_append_left _ hb)
  rw [List.map_append, show [x].map φ = [φ x] from rfl, rl_snoc, rl_snoc, i]
  unfold rlS
  rw [List.getLast?_map]
  cases hl : (rl l).getLast? with
  | none => rfl
  | some g =>
    show (if φ g.1 = φ x then _ else _) = List.map _ (if g.1 = x then _ else _)
    have hg : g.1 ∈ l := rl_val l g (List.mem_of_getLast? hl)
    by_cases he : g.1 = x
    · rw [if_pos he, if_pos (by rw [he]), List.map_append, List.map_dropLast]; rfl
    · rw [if_neg he, if_neg (h g.1 (List.mem_append_left _ hg) x (List.mem_append_right _ (List.mem_singleton.mpr rfl)) he), List.map_append]; rfl
theorem szs_map {n : Nat} {ts : List Int} {φ : Int → Int} (h : ∀ x ∈ ts, ∀ y ∈ ts, x ≠ y → φ x ≠ φ y) : szs n (ts.map φ) = szs n ts := by
  unfold szs grps
  rw [← List.map_drop, rl_map _ fun x hx y hy => h x (List.mem_of_mem_drop hx) y (List.mem_of_mem_drop hy), List.map_map]
  rfl
theorem rl_append {a : List Int} : ∀ b : List Int, (∀ x y, a.getLast? = some x → b.head? = some y → x ≠ y) → rl (a ++ b) = rl a ++ rl b := snoc_ind (fun _ => by rw [List.append_nil]; exact (List.append_nil _).symm) fun l x ih h => by
  rw [← List.append_assoc, rl_snoc]
  cases hl : l with
  | nil =>
    rw [List.append_nil, List.nil_append]
    subst hl
    have e : rl [x] = [(x, 1)] := rfl
    rw [e]
    unfold rlS
    cases hr : (rl a).getLast? with
    | none =>
      have : rl a = [] := List.getLast?_eq_none_iff.mp hr
      rw [this]; rfl
    | some g =>
      have e2 : ∃ y, a.getLast? = some y ∧ g.1 = y := by
        cases hy : a.getLast? with
        | none =>
          have : a = [] := List.getLast?_eq_none_iff.mp hy
          rw [this] at hr; cases hr
        | some y =>
          have ea := drop_last_eq hy
          obtain ⟨s, hs⟩ := rl_last a.dropLast y
          rw [← ea, hr] at hs
          exact ⟨y, rfl, by rw [Option.some.inj hs]⟩
      obtain ⟨y, hy, hgy⟩ := e2
      show (if g.1 = x then _ else _) = _
      rw [if_neg (by rw [hgy]; exact h y x hy rfl)]
  | cons z zs =>
    rw [← hl]
    have hne : l ≠ [] := by rw [hl]; simp
    rw [ih fun u v hu hv => h u v hu (by rw [List.head?_append, hv]; rfl), rl_snoc l x]
    unfold rlS
    have hrl : rl l ≠ [] := fun e => hne (by have := flat_rl l; rw [e] at this; exact this.symm)
    have e3 : (rl a ++ rl l).getLast? = (rl l).getLast? := by
      rw [List.getLast?_append]
      cases h : (rl l).getLast? with
      | none => exact absurd (List.getLast?_eq_none_iff.mp h) hrl
      | some g => rfl
    rw [e3]
    cases hg : (rl l).getLast? with
    | none => exact absurd (List.getLast?_eq_none_iff.mp hg) hrl
    | some g =>
      show (if g.1 = x then (rl a ++ rl l).dropLast ++ [(g.1, g.2 + 1)] else rl a ++ rl l ++ [(x, 1)]) = rl a ++ (if g.1 = x then (rl l).dropLast ++ [(g.1, g.2 + 1)] else rl l ++ [(x, 1)])
      by_cases he : g.1 = x
      · rw [if_pos he, if_pos he, List.dropLast_append_of_ne_nil hrl, List.append_assoc]
      · rw [if_neg he, if_neg he, List.append_assoc]
theorem cntW_app (n : Nat) (a : List Nat) : ∀ b : List Nat, cntW n (a ++ b) = cntW n a * cntW n b := snocN_ind (by rw [List.append_nil]; show _ = _ * 1; rw [Nat.mul_one]) fun b s ih => by
  rw [← List.append_assoc, cntW_snoc, cntW_snoc, ih, Nat.mul_assoc]
theorem wr_append (n : Nat) {l0 : List Int} {s0 : List Nat} (h : l0.length = s0.sum) (l1 : List Int) : ∀ s1 : List Nat, (wr n (l0 ++ l1) (s0 ++ s1)).1 = (wr n l0 s0).1 * cntW n s1 + (wr n l1 s1).1 := snocN_ind (by
    rw [List.append_nil, wr_app n l0 l1 s0 (by omega)]
    show _ = _ * 1 + 0
    omega) fun s1 s ih => by
  rw [← List.append_assoc, wr_snoc, cntW_snoc, wr_snoc]
  show (wr n (l0 ++ l1) (s0 ++ s1)).1 * bin n s + rs n 0 (((l0 ++ l1).drop (wr n (l0 ++ l1) (s0 ++ s1)).2).take s) = (wr n l0 s0).1 * (cntW n s1 * bin n s) + ((wr n l1 s1).1 * bin n s + rs n 0 ((l1.drop (wr n l1 s1).2).take s))
  rw [ih, wr_at, wr_at, List.sum_append, ← h, List.drop_append, List.drop_of_length_le (by omega), List.nil_append, Nat.add_sub_cancel_left, Nat.add_mul, Nat.mul_assoc]
  omega
theorem isSets_app {n : Nat} : ∀ {s0 : List Nat} {l0 l1 : List Int} {s1 : List Nat}, IsSets n l0 s0 → IsSets n l1 s1 → IsSets n (l0 ++ l1) (s0 ++ s1)
  | [], l0, l1, s1, h0, h1 => by rw [show l0 = [] from h0]; exact h1
  | s :: s0, l0, l1, s1, ⟨a, b, e, ha, hb⟩, h1 => ⟨a, b ++ l1, by rw [e, List.append_assoc], ha, isSets_app hb h1⟩
/-- later tops behind first ones -/
theorem poss_later {n : Nat} {ts ls : List Int} (hn : 1 ≤ n) (h : Poss n ts) (hl : n ≤ ts.length) (hlow : ∀ t ∈ ts, ∀ x ∈ ls, t < x) (h2 : Poss n (List.replicate n 0 ++ ls)) : Poss n (ts ++ ls) := fun i hi => by
  rw [List.length_append] at hi
  by_cases hc : i < ts.length
  · have q := h i hc
    unfold okAt at q ⊢
    rw [getD_append_left hc, getD_append_left (show i - 1 < ts.length by omega), getD_append_left (show i - n < ts.length by omega)]
    exact q
  · have er : ∀ k, ts.length ≤ k → (ts ++ ls).getD k 0 = ls.getD (k - ts.length) 0 := fun k hk => by
      rw [List.getD_eq_getElem?_getD, List.getD_eq_getElem?_getD, List.getElem?_append_right hk]
    have ez : ∀ k, n ≤ k → (List.replicate n 0 ++ ls).getD k 0 = ls.getD (k - n) 0 := fun k hk => by
      rw [List.getD_eq_getElem?_getD, List.getD_eq_getElem?_getD, List.getElem?_append_right (by rw [List.length_replicate]; exact hk), List.length_replicate]
    have hx : ls.getD (i - ts.length) 0 ∈ ls := Lc.getD_mem (by omega)
    unfold okAt
    rw [if_neg (by omega), er i (by omega)]
    have q := h2 (n + (i - ts.length)) (by rw [List.length_append, List.length_replicate]; omega)
    unfold okAt at q
    rw [if_neg (by omega), ez (n + (i - ts.length)) (by omega), show n + (i - ts.length) - n = i - ts.length by omega] at q
    obtain ⟨q1, q2⟩ := Bool.and_eq_true_iff.mp q
    have q1 := of_decide_eq_true q1
    have q2 := of_decide_eq_true q2
    refine Bool.and_eq_true_iff.mpr ⟨decide_eq_true ?_, decide_eq_true ?_⟩
    · by_cases hp : i - 1 < ts.length
      · rw [getD_append_left hp]
        have := hlow _ (Lc.getD_mem hp) _ hx
        omega
      · rw [er _ (by omega)]
        rw [ez (n + (i - ts.length) - 1) (by omega), show n + (i - ts.length) - 1 - n = i - 1 - ts.length by omega] at q1
        exact q1
    · by_cases hp : i - n < ts.length
      · rw [getD_append_left hp]
        exact hlow _ (Lc.getD_mem hp) _ hx
      · rw [er _ (by omega)]
        rw [ez (i - ts.length) (by omega), show i - ts.length - n = i - n - ts.length by omega] at q2
        exact q2
theorem grps_later {n : Nat} {ts ls : List Int} (hl : n ≤ ts.length) (hlow : ∀ t ∈ ts, ∀ x ∈ ls, t < x) : szs n (ts ++ ls) = szs n ts ++ (rl ls).map (·.2) := by
  unfold szs grps
  rw [List.drop_append_of_le_length hl, rl_append _ fun x y hx hy => ?_, List.map_append]
  have h1 : x ∈ ts := List.mem_of_mem_drop (List.mem_of_getLast? hx)
  have h2 : y ∈ ls := List.mem_of_head? hy
  have := hlow x h1 y h2
  omega
theorem szs_zeros {n : Nat} {ls : List Int} : szs n (List.replicate n 0 ++ ls) = (rl ls).map (·.2) := by
  unfold szs grps
  rw [List.drop_append_of_le_length (by rw [List.length_replicate]; exact Nat.le_refl _), List.drop_of_length_le (by rw [List.length_replicate]; exact Nat.le_refl _), List.nil_append]
/-- what is above 0 in possible tops -/
theorem poss_pos {n : Nat} {ts : List Int} (hn : 1 ≤ n) (h : Poss n ts) : ts.filter (fun x => decide (0 < x)) = ts.drop n := by
  conv => lhs; rw [← List.take_append_drop n ts]
  rw [List.filter_append, h.take0]
  have e1 : (List.replicate (min n ts.length) (0 : Int)).filter (fun x => decide (0 < x)) = [] := List.filter_eq_nil_iff.mpr fun x hx => by rw [(List.mem_replicate.mp hx).2]; decide
  have e2 : (ts.drop n).filter (fun x => decide (0 < x)) = ts.drop n := List.filter_eq_self.mpr fun x hx => by
    obtain ⟨k, hk, e⟩ := List.getElem_of_mem hx
    rw [List.getElem_drop] at e
    rw [List.length_drop] at hk
    have := h.above hn (i := n + k) (by omega) (by omega)
    rw [List.getD_eq_getElem?_getD, List.getElem?_eq_getElem (by omega), e] at this
    exact decide_eq_true this
  rw [e1, e2, List.nil_append]
/-- zeros ahead of moved tops -/
theorem poss_moved {n : Nat} {ts : List Int} {d : Int} (hn : 1 ≤ n) (hd : 0 ≤ d) (h : Poss n ts) (hz : ∀ x ∈ ts, 0 ≤ x) : Poss n (List.replicate n 0 ++ (ts.drop n).map (· + d)) := by
  by_cases hl : n ≤ ts.length
  · have e : List.replicate n 0 ++ (ts.drop n).map (· + d) = ts.map fun x => if 0 < x then x + d else 0 := by
      conv => rhs; rw [← List.take_append_drop n ts]
      rw [List.map_append, h.take0, Nat.min_eq_left hl, List.map_replicate, if_neg (by decide)]
      refine congrArg (List.replicate n (0 : Int) ++ ·) (List.map_congr_left fun x hx => ?_)
      obtain ⟨k, hk, e⟩ := List.getElem_of_mem hx
      rw [List.getElem_drop] at e
      rw [List.length_drop] at hk
      have := h.above hn (i := n + k) (by omega) (by omega)
      rw [List.getD_eq_getElem?_getD, List.getElem?_eq_getElem (by omega), e] at this
      rw [if_pos (show 0 < x from this)]
    rw [e]
    refine poss_map (by rw [if_neg (by decide)]) (fun x hx y hy hxy => ?_) hz (fun x hx hne => ?_) h
    · have := hz x hx
      have := hz y hy
      split <;> split <;> omega
    · have := hz x hx
      rw [if_pos (by omega)]; omega
  · rw [List.drop_of_length_le (by omega), List.map_nil, List.append_nil]
    exact poss_zeros (Nat.le_refl _)
end Lc

namespace Lc
/-! ### ways and layouts -/
/-- places as the play has them -/
def plc (ws ts : List Int) : List (Nat × Int) := (ws.zip ts).map fun p => (p.1.toNat, p.2)
theorem plc_len {ws ts : List Int} (h : ws.length = ts.length) : (plc ws ts).length = ts.length := by
  unfold plc
  rw [List.length_map, List.length_zip]; omega
theorem plc_get {ws ts : List Int} (h : ws.length = ts.length) {i : Nat} (hi : i < ts.length) : (plc ws ts)[i]? = some ((ws.getD i 0).toNat, ts.getD i 0) := by
  unfold plc
  have hz : i < (ws.zip ts).length := by rw [List.length_zip]; omega
  rw [List.getElem?_map, List.getElem?_eq_getElem hz, List.getElem_zip, List.getD_eq_getElem?_getD, List.getD_eq_getElem?_getD, List.getElem?_eq_getElem hi, List.getElem?_eq_getElem (by omega)]
  rfl
/-- what the next top in a column is -/
theorem nx_cases (B c : Int) : ∀ ps : List (Int × Int), nx B c ps = B ∨ ∃ k : Nat, ps[k]? = some (c, nx B c ps)
  | [] => .inl rfl
  | p :: r => by
    unfold nx
    by_cases h : p.1 = c
    · rw [if_pos h]
      exact .inr ⟨0, by rw [← h]; rfl⟩
    · rw [if_neg h]
      rcases nx_cases B c r with e | ⟨k, e⟩
      · exact .inl e
      · exact .inr ⟨k + 1, by rw [List.getElem?_cons_succ]; exact e⟩
theorem zip_at {ws ts : List Int} (h : ws.length = ts.length) {i k : Nat} {c v : Int} (e : ((ws.zip ts).drop i)[k]? = some (c, v)) : i + k < ts.length ∧ ws.getD (i + k) 0 = c ∧ ts.getD (i + k) 0 = v := by
  rw [List.getElem?_drop] at e
  have hl := (List.getElem?_eq_some_iff.mp e).1
  rw [List.length_zip] at hl
  rw [List.getElem?_eq_getElem (by rw [List.length_zip]; exact hl), List.getElem_zip] at e
  have e := Option.some.inj e
  have e1 := congrArg Prod.fst e
  have e2 := congrArg Prod.snd e
  refine ⟨by omega, ?_, ?_⟩
  · rw [List.getD_eq_getElem?_getD, List.getElem?_eq_getElem (by omega)]; exact e1
  · rw [List.getD_eq_getElem?_getD, List.getElem?_eq_getElem (by omega)]; exact e2
/-- the columns after i cards -/
def colI (B : Int) (n : Nat) (ts ws : List Int) (i : Nat) : List Int := (List.range n).map fun c => if c < i then nx B ((c : Nat) : Int) ((ws.zip ts).drop i) else 0
theorem colI_len (B : Int) (n : Nat) (ts ws : List Int) (i : Nat) : (colI B n ts ws i).length = n := by unfold colI; rw [List.length_map, List.length_range]
theorem colI_get {B : Int} {n : Nat} {ts ws : List Int} {i c : Nat} (h : c < n) : (colI B n ts ws i)[c]? = some (if c < i then nx B ((c : Nat) : Int) ((ws.zip ts).drop i) else 0) := by
  unfold colI
  rw [List.getElem?_map, List.getElem?_range h]; rfl
theorem way_head {n : Nat} {ts ws : List Int} (hw : IsWay n ts ws) {i : Nat} (hi : i < n) (hl : i < ts.length) : ws.getD i 0 = ((i : Nat) : Int) := by
  have e := congrArg (fun l : List Int => l.getD i 0) hw.head
  have e : (ws.take n).getD i 0 = ((List.range (min n ts.length)).map fun k => ((k : Nat) : Int)).getD i 0 := e
  rw [getD_take hi, List.getD_eq_getElem?_getD (l := List.map _ _), List.getElem?_map, List.getElem?_range (by omega)] at e
  exact e
/-- within equal tops the columns rise -/
theorem way_rise {n : Nat} {ts ws : List Int} (hn : 1 ≤ n) (hp : Poss n ts) (hw : IsWay n ts ws) {i : Nat} (hi : n ≤ i) : ∀ k, i + (k + 1) < ts.length → ts.getD (i + (k + 1)) 0 = ts.getD i 0 → ws.getD i 0 < ws.getD (i + (k + 1)) 0
  | 0, hl, he => by
    have := hw.asc (i + 1) (by omega) hl
    rw [show i + 1 - 1 = i by omega] at this
    have he' : ts.getD (i + 1) 0 = ts.getD i 0 := he
    exact this.resolve_left (by omega)
  | k + 1, hl, he => by
    have m1 := ok_le (n := n) (ts := ts) (m := ts.length - 1) (a := i) (b := i + (k + 1)) hn (fun j hj => hp j (by omega)) (by omega) (by omega)
    have m2 := ok_le (n := n) (ts := ts) (m := ts.length - 1) (a := i + (k + 1)) (b := i + (k + 1 + 1)) hn (fun j hj => hp j (by omega)) (by omega) (by omega)
    have ih := way_rise hn hp hw hi k (by omega) (by omega)
    have := hw.asc (i + (k + 1 + 1)) (by omega) hl
    rw [show i + (k + 1 + 1) - 1 = i + (k + 1) by omega] at this
    have := this.resolve_left (by omega)
    omega
theorem col_low {B : Int} {n : Nat} {ts ws : List Int} (hn : 1 ≤ n) (hp : Poss n ts) (hw : IsWay n ts ws) (hB : ∀ t ∈ ts, t < B) (hB0 : 0 < B) {i : Nat} (hi : i < ts.length) :
    (ws.getD i 0).toNat = low false (colI B n ts ws i) ∧ ts.getD i 0 = mn (colI B n ts ws i) := by
  have hlw := hw.len
  have hwi := hw.all _ (Lc.getD_mem (show i < ws.length by omega))
  obtain ⟨c, ec⟩ := Int.eq_ofNat_of_zero_le hwi.1
  have hc : c < n := by omega
  have hti := hB _ (Lc.getD_mem hi)
  -- its height, the others'
  have h1 : (colI B n ts ws i)[c]? = some (ts.getD i 0) := by
    rw [colI_get hc]
    by_cases hin : i < n
    · have := way_head hw hin hi
      rw [if_neg (by omega), hp.zero hin hi]
    · rw [if_pos (by omega), zip_drop hi hlw, ec]
      show some (if ((c : Nat) : Int) = ((c : Nat) : Int) then _ else _) = _
      rw [if_pos rfl]
  have h2 : ∀ j v, (colI B n ts ws i)[j]? = some v → ts.getD i 0 ≤ v ∧ (v = ts.getD i 0 → c ≤ j) := fun j v hv => by
    have hj : j < n := by have := (List.getElem?_eq_some_iff.mp hv).1; rwa [colI_len] at this
    rw [colI_get hj] at hv
    have hv := Option.some.inj hv
    by_cases hin : i < n
    · have hci := way_head hw hin hi
      have hz := hp.zero hin hi
      rw [hz]
      by_cases hji : j < i
      · rw [if_pos hji] at hv
        have : 0 < v := by
          rcases nx_cases B ((j : Nat) : Int) ((ws.zip ts).drop i) with e | ⟨k, e⟩
          · omega
          · obtain ⟨a1, a2, a3⟩ := zip_at hlw e
            by_cases hkn : i + k < n
            · have := way_head hw hkn a1
              omega
            · have := hp.above hn (i := i + k) (by omega) a1
              omega
        omega
      · rw [if_neg hji] at hv
        omega
    · rw [if_pos (by omega)] at hv
      rw [zip_drop hi hlw] at hv
      have hv : (if ws.getD i 0 = ((j : Nat) : Int) then ts.getD i 0 else nx B ((j : Nat) : Int) ((ws.zip ts).drop (i + 1))) = v := hv
      by_cases hij : ws.getD i 0 = ((j : Nat) : Int)
      · rw [if_pos hij] at hv
        omega
      · rw [if_neg hij] at hv
        rcases nx_cases B ((j : Nat) : Int) ((ws.zip ts).drop (i + 1)) with e | ⟨k, e⟩
        · omega
        · obtain ⟨a1, a2, a3⟩ := zip_at hlw e
          rw [hv] at a3
          have m1 := ok_le (n := n) (ts := ts) (m := ts.length - 1) (a := i) (b := i + 1 + k) hn (fun j hj => hp j (by omega)) (by omega) (by omega)
          refine ⟨by omega, fun hve => ?_⟩
          have r := way_rise hn hp hw (i := i) (by omega) k (by omega) (by rw [show i + (k + 1) = i + 1 + k by omega]; omega)
          rw [show i + (k + 1) = i + 1 + k by omega] at r
          omega
  have em : mn (colI B n ts ws i) = ts.getD i 0 := mn_eq (List.mem_of_getElem? h1) fun y hy => by
    obtain ⟨j, hj, e⟩ := List.getElem_of_mem hy
    exact (h2 j y (by rw [List.getElem?_eq_getElem hj, e])).1
  refine ⟨?_, em.symm⟩
  rw [ec]
  refine low_char (r := false) (by rw [em]; exact h1) fun j hj => ?_
  rw [em] at hj
  exact (h2 j _ hj).2 rfl
theorem colI_zero (B : Int) (n : Nat) (ts ws : List Int) : colI B n ts ws 0 = List.replicate n 0 := by
  refine List.ext_getElem? fun c => ?_
  by_cases h : c < n
  · rw [colI_get h, if_neg (by omega), List.getElem?_replicate, if_pos h]
  · rw [List.getElem?_eq_none (by rw [colI_len]; omega), List.getElem?_eq_none (by rw [List.length_replicate]; omega)]
theorem colI_step {B : Int} {n : Nat} {ts ws : List Int} (hw : IsWay n ts ws) {i : Nat} (hi : i < ts.length) :
    (colI B n ts ws i).set (ws.getD i 0).toNat (nx B (ws.getD i 0) ((ws.zip ts).drop (i + 1))) = colI B n ts ws (i + 1) := by
  have hlw := hw.len
  have hwi := hw.all _ (Lc.getD_mem (show i < ws.length by omega))
  obtain ⟨c, ec⟩ := Int.eq_ofNat_of_zero_le hwi.1
  have hc : c < n := by omega
  rw [ec]
  show (colI B n ts ws i).set c _ = _
  refine List.ext_getElem? fun j => ?_
  rw [List.getElem?_set]
  by_cases hj : j < n
  · by_cases e : c = j
    · subst e
      rw [if_pos rfl, if_pos (by rw [colI_len]; exact hj), colI_get hj]
      by_cases hin : i < n
      · have := way_head hw hin hi
        rw [if_pos (by omega)]
      · rw [if_pos (by omega)]
    · rw [if_neg e, colI_get hj, colI_get hj]
      have en : nx B ((j : Nat) : Int) ((ws.zip ts).drop i) = nx B ((j : Nat) : Int) ((ws.zip ts).drop (i + 1)) := by
        rw [zip_drop hi hlw]
        show (if ws.getD i 0 = ((j : Nat) : Int) then _ else _) = _
        rw [if_neg (by omega)]
      rw [en]
      by_cases hin : i < n
      · have := way_head hw hin hi
        by_cases h1 : j < i
        · rw [if_pos h1, if_pos (by omega)]
        · rw [if_neg h1, if_neg (by omega)]
      · rw [if_pos (by omega), if_pos (by omega)]
  · rw [if_neg (by omega), List.getElem?_eq_none (by rw [colI_len]; omega), List.getElem?_eq_none (by rw [colI_len]; omega)]
/-- the cards of a way, laid again -/
theorem lay_cow {B : Int} {n : Nat} {ts ws : List Int} (hn : 1 ≤ n) (hp : Poss n ts) (hw : IsWay n ts ws) (hB : ∀ t ∈ ts, t < B) (hB0 : 0 < B) :
    ∀ i, i ≤ ts.length → play false (List.replicate n 0) ((cow B ts ws).take i) = ((plc ws ts).take i, colI B n ts ws i)
  | 0, _ => by rw [List.take_zero, List.take_zero, colI_zero]; rfl
  | i + 1, h => by
    have hlw := hw.len
    have ih := lay_cow hn hp hw hB hB0 i (by omega)
    have hi : i < ts.length := by omega
    have e : (cow B ts ws)[i]? = some (hwy B ts ws i) := by
      unfold cow
      rw [List.getElem?_map, List.getElem?_range hi]; rfl
    rw [play_take e, ih]
    obtain ⟨c1, c2⟩ := col_low hn hp hw hB hB0 hi
    unfold put
    refine Prod.ext ?_ ?_
    · show (plc ws ts).take i ++ [(low false (colI B n ts ws i), mn (colI B n ts ws i))] = (plc ws ts).take (i + 1)
      rw [← c1, ← c2, List.take_add_one, plc_get hlw hi]; rfl
    · show (colI B n ts ws i).set (low false (colI B n ts ws i)) (mn (colI B n ts ws i) + hwy B ts ws i) = colI B n ts ws (i + 1)
      rw [← c1, ← c2, ← colI_step hw hi]
      unfold hwy
      rw [show ts.getD i 0 + (nx B (ws.getD i 0) ((ws.zip ts).drop (i + 1)) - ts.getD i 0) = nx B (ws.getD i 0) ((ws.zip ts).drop (i + 1)) by omega]
theorem lay_all {B : Int} {n : Nat} {ts ws : List Int} (hn : 1 ≤ n) (hp : Poss n ts) (hw : IsWay n ts ws) (hB : ∀ t ∈ ts, t < B) (hB0 : 0 < B) :
    play false (List.replicate n 0) (cow B ts ws) = (plc ws ts, (List.range n).map fun c => if c < ts.length then B else 0) := by
  have h := lay_cow hn hp hw hB hB0 ts.length (Nat.le_refl _)
  rw [List.take_of_length_le (by rw [cow_len]; exact Nat.le_refl _), List.take_of_length_le (by rw [plc_len hw.len]; exact Nat.le_refl _)] at h
  rw [h]
  unfold colI
  rw [List.drop_of_length_le (by rw [List.length_zip]; omega)]
  rfl
/-- the cards are cards -/
theorem cow_pos {B : Int} {n : Nat} {ts ws : List Int} (hn : 1 ≤ n) (hp : Poss n ts) (hw : IsWay n ts ws) (hB : ∀ t ∈ ts, t < B) : ∀ h ∈ cow B ts ws, 1 ≤ h := fun h hh => by
  obtain ⟨i, hi, rfl⟩ := List.mem_map.mp hh
  have hi := List.mem_range.mp hi
  have hlw := hw.len
  unfold hwy
  rcases nx_cases B (ws.getD i 0) ((ws.zip ts).drop (i + 1)) with e | ⟨k, e⟩
  · rw [e]
    have := hB _ (Lc.getD_mem hi)
    omega
  · obtain ⟨a1, a2, a3⟩ := zip_at hlw e
    have m1 := ok_le (n := n) (ts := ts) (m := ts.length - 1) (a := i) (b := i + 1 + k) hn (fun j hj => hp j (by omega)) (by omega) (by omega)
    refine Int.le_sub_left_of_add_le ?_
    have : ts.getD (i + 1 + k) 0 ≠ ts.getD i 0 := fun he => by
      by_cases hin : i < n
      · have h1 := way_head hw hin hi
        by_cases hkn : i + 1 + k < n
        · have := way_head hw hkn a1
          omega
        · have := hp.above hn (i := i + 1 + k) (by omega) a1
          have := hp.zero hin hi
          omega
      · have r := way_rise hn hp hw (i := i) (by omega) k (by omega) (by rw [show i + (k + 1) = i + 1 + k by omega]; exact he)
        rw [show i + (k + 1) = i + 1 + k by omega] at r
        omega
    omega
end Lc

namespace Lc
/-! ### mirrored ways -/
def mirG (n : Nat) (l : List Int) : List Int := (l.map fun c => (n : Int) - 1 - c).reverse
def mirL (n : Nat) : List Nat → List Int → List Int
  | [], _ => []
  | s :: ss, l => mirG n (l.take s) ++ mirL n ss (l.drop s)
theorem mirG_len (n : Nat) (l : List Int) : (mirG n l).length = l.length := by unfold mirG; rw [List.length_reverse, List.length_map]
theorem mirG_set {n s : Nat} {l : List Int} (h : IsSet n 0 s l) : IsSet n 0 s (mirG n l) := by
  refine ⟨by rw [mirG_len, h.len], ?_, fun x hx => ?_⟩
  · unfold mirG Asc
    rw [List.pairwise_reverse, List.pairwise_map]
    exact h.asc.imp fun hab => by omega
  · unfold mirG at hx
    obtain ⟨y, hy, rfl⟩ := List.mem_map.mp (List.mem_reverse.mp hx)
    have := h.all y hy
    omega
theorem mirG_inv (n : Nat) (l : List Int) : mirG n (mirG n l) = l := by
  unfold mirG
  rw [List.map_reverse, List.reverse_reverse, List.map_map]
  conv => rhs; rw [← List.map_id l]
  refine List.map_congr_left fun x _ => ?_
  show (n : Int) - 1 - ((n : Int) - 1 - x) = x
  omega
theorem mirL_sets {n : Nat} : ∀ {szs : List Nat} {l : List Int}, IsSets n l szs → IsSets n (mirL n szs l) szs
  | [], l, h => rfl
  | s :: szs, l, ⟨a, b, e, ha, hb⟩ => by
    have e1 : l.take s = a := by rw [e, ← ha.len, List.take_left']; rfl
    have e2 : l.drop s = b := by rw [e, ← ha.len, List.drop_left']; rfl
    refine ⟨mirG n a, mirL n szs b, ?_, mirG_set ha, mirL_sets hb⟩
    show mirG n (l.take s) ++ mirL n szs (l.drop s) = _
    rw [e1, e2]
theorem mirL_inv {n : Nat} : ∀ {szs : List Nat} {l : List Int}, IsSets n l szs → mirL n szs (mirL n szs l) = l
  | [], l, h => by rw [show l = [] from h]; rfl
  | s :: szs, l, ⟨a, b, e, ha, hb⟩ => by
    have e1 : l.take s = a := by rw [e, ← ha.len, List.take_left']; rfl
    have e2 : l.drop s = b := by rw [e, ← ha.len, List.drop_left']; rfl
    have e3 : mirL n (s :: szs) l = mirG n a ++ mirL n szs b := by
      show mirG n (l.take s) ++ mirL n szs (l.drop s) = _
      rw [e1, e2]
    rw [e3]
    show mirG n ((mirG n a ++ mirL n szs b).take s) ++ mirL n szs ((mirG n a ++ mirL n szs b).drop s) = l
    have ls : (mirG n a).length = s := by rw [mirG_len, ha.len]
    rw [← ls, List.take_left' rfl, List.drop_left' rfl, mirG_inv, mirL_inv hb, e]
theorem mirL_snoc {n : Nat} : ∀ {szs : List Nat} {l c : List Int} {s : Nat}, IsSets n l szs → c.length = s → mirL n (szs ++ [s]) (l ++ c) = mirL n szs l ++ mirG n c
  | [], l, c, s, h, hc => by
    rw [show l = [] from h]
    show mirG n (c.take s) ++ [] = [] ++ mirG n c
    rw [List.append_nil, ← hc, List.take_length]; rfl
  | t :: szs, l, c, s, ⟨a, b, e, ha, hb⟩, hc => by
    have e1 : (l ++ c).take t = a := by rw [e, List.append_assoc, ← ha.len, List.take_left']; rfl
    have e2 : (l ++ c).drop t = b ++ c := by rw [e, List.append_assoc, ← ha.len, List.drop_left']; rfl
    have e3 : l.take t = a := by rw [e, ← ha.len, List.take_left']; rfl
    have e4 : l.drop t = b := by rw [e, ← ha.len, List.drop_left']; rfl
    show mirG n ((l ++ c).take t) ++ mirL n (szs ++ [s]) ((l ++ c).drop t) = mirG n (l.take t) ++ mirL n szs (l.drop t) ++ mirG n c
    rw [e1, e2, e3, e4, mirL_snoc hb hc, List.append_assoc]
theorem rs_one : ∀ (m : Nat) (c x : Int), c ≤ x → x < c + m → (rs m c [x] : Int) = x - c
  | 0, c, x, h1, h2 => by omega
  | m + 1, c, x, h1, h2 => by
    rw [rs_cons]
    by_cases e : c = x
    · rw [if_pos e, rs_nil]; omega
    · rw [if_neg e]
      have := rs_one m (c + 1) x (by omega) (by omega)
      show ((bin m 0 + rs m (c + 1) [x] : Nat) : Int) = _
      rw [bin_zero]
      omega
/-- the numbers of mirrored ways count from the end -/
theorem wr_mir (n : Nat) : ∀ (szs : List Nat), (∀ s ∈ szs, s = 1 ∨ s = n) → ∀ l, IsSets n l szs → (wr n l szs).1 + (wr n (mirL n szs l) szs).1 + 1 = cntW n szs := snocN_ind (fun _ l h => by rfl) fun szs s ih hs l h => by
  obtain ⟨a, c, e, ha, hc⟩ := isSets_unsnoc h
  have h1 := ih (fun t ht => hs t (List.mem_append_left _ ht)) a ha
  have hl := isSets_len ha
  have hm := mirL_sets ha
  have hml := isSets_len hm
  have hmc := mirG_set hc
  subst e
  rw [mirL_snoc ha hc.len]
  have ew : ∀ a c : List Int, IsSets n a szs → IsSet n 0 s c → (wr n (a ++ c) (szs ++ [s])).1 = (wr n a szs).1 * bin n s + rs n 0 c := fun a c ha hc => by
    have hl := isSets_len ha
    rw [wr_snoc, wr_at, wr_app n _ _ szs (by omega), List.drop_append_of_le_length (by omega), List.drop_of_length_le (by omega), List.nil_append, List.take_of_length_le (by rw [hc.len]; exact Nat.le_refl _)]
  rw [ew a c ha hc, ew _ _ hm hmc, cntW_snoc, ← h1]
  have hr : rs n 0 c + rs n 0 (mirG n c) + 1 = bin n s := by
    rcases hs s (List.mem_append_right _ List.mem_cons_self) with rfl | rfl
    · obtain ⟨x, rfl⟩ : ∃ x, c = [x] := by
        have := hc.len
        match c, this with
        | [x], _ => exact ⟨x, rfl⟩
      have hx := hc.all x List.mem_cons_self
      have r1 := rs_one n 0 x (by omega) (by omega)
      have r2 := rs_one n 0 ((n : Int) - 1 - x) (by omega) (by omega)
      rw [bin_one]
      show rs n 0 [x] + rs n 0 [(n : Int) - 1 - x] + 1 = n
      omega
    · have r1 := (rs_spec s c 0 s hc).1
      have r2 := (rs_spec s _ 0 s hmc).1
      rw [bin_self] at r1 r2 ⊢
      omega
  rw [← hr, Nat.add_mul, Nat.add_mul, Nat.one_mul]
  omega
def mirW (n : Nat) (ts ws : List Int) : List Int := rng (min n ts.length) ++ mirL n (szs n ts) (ws.drop n)
theorem rng_len (m : Nat) : (rng m).length = m := by unfold rng; rw [List.length_map, List.length_range]
theorem mirW_drop {n : Nat} {ts ws : List Int} (hn : 1 ≤ n) (hw : IsWay n ts ws) : (mirW n ts ws).drop n = mirL n (szs n ts) (ws.drop n) := by
  unfold mirW
  by_cases h : n ≤ ts.length
  · rw [List.drop_append_of_le_length (by rw [rng_len]; omega), List.drop_of_length_le (by rw [rng_len]; omega), List.nil_append]
  · rw [szs_few (by omega)]
    show (rng (min n ts.length) ++ []).drop n = []
    rw [List.append_nil, List.drop_of_length_le (by rw [rng_len]; omega)]
theorem mirW_way {n : Nat} {ts ws : List Int} (hn : 1 ≤ n) (hp : Poss n ts) (hw : IsWay n ts ws) : IsWay n ts (mirW n ts ws) := way_of hn hp (mirL_sets (way_sets hn hw))
theorem mirW_inv {n : Nat} {ts ws : List Int} (hn : 1 ≤ n) (hp : Poss n ts) (hw : IsWay n ts ws) : mirW n ts (mirW n ts ws) = ws := by
  conv => rhs; rw [hw.eq]
  show rng _ ++ mirL n (szs n ts) ((mirW n ts ws).drop n) = _
  rw [mirW_drop hn hw, show mirL n (szs n ts) (mirL n (szs n ts) (ws.drop n)) = ws.drop n from mirL_inv (way_sets hn hw)]
theorem mirW_rank {n : Nat} {ts ws : List Int} (hn : 1 ≤ n) (hp : Poss n ts) (hw : IsWay n ts ws) (h : ∀ s ∈ szs n ts, s = 1 ∨ s = n) : rankW n ts ws + rankW n ts (mirW n ts ws) + 1 = countW n ts := by
  unfold rankW countW
  rw [mirW_drop hn hw]
  exact wr_mir n _ h _ (way_sets hn hw)
/-! ### the right one of equal columns -/
def mirQ (n : Nat) (ps : List (Nat × Int)) : List (Nat × Int) := ps.map fun p => (n - 1 - p.1, p.2)
def mirT (n : Nat) (s : List (Nat × Int) × List Int) : List (Nat × Int) × List Int := (mirQ n s.1, s.2.reverse)
theorem mn_revQ {l : List Int} (h : l ≠ []) : mn l.reverse = mn l := mn_eq (List.mem_reverse.mpr (mn_spec h).1) fun y hy => (mn_spec h).2 y (List.mem_reverse.mp hy)
theorem low_revQ {l : List Int} (h : l ≠ []) : low true l.reverse = l.length - 1 - low false l := by
  unfold low
  rw [if_pos rfl, if_neg (by simp), mn_revQ h, List.reverse_reverse, List.length_reverse]
theorem set_revQ {l : List Int} {i : Nat} {v : Int} (h : i < l.length) : l.reverse.set (l.length - 1 - i) v = (l.set i v).reverse := by
  refine List.ext_getElem (by simp) fun j h1 h2 => ?_
  simp only [List.length_set, List.length_reverse] at h1 h2
  rw [List.getElem_set, List.getElem_reverse, List.getElem_reverse, List.getElem_set]
  simp only [List.length_set]
  by_cases e : i = l.length - 1 - j
  · rw [if_pos (by omega), if_pos e]
  · rw [if_neg (by omega), if_neg e]
theorem put_mirQ {s : List (Nat × Int) × List Int} (h : s.2 ≠ []) (x : Int) : put true (mirT s.2.length s) x = mirT s.2.length (put false s x) := by
  unfold put mirT mirQ
  simp only [low_revQ h, mn_revQ h, List.map_append, List.map_cons, List.map_nil, set_revQ (low_lt h)]
theorem fold_mirQ (n : Nat) : ∀ (hs : List Int) (s : List (Nat × Int) × List Int), s.2 ≠ [] → s.2.length = n → hs.foldl (put true) (mirT n s) = mirT n (hs.foldl (put false) s)
  | [], _, _, _ => rfl
  | x :: hs, s, h, e => by
    show hs.foldl (put true) (put true (mirT n s) x) = mirT n (hs.foldl (put false) (put false s x))
    rw [← e, put_mirQ h, e]
    exact fold_mirQ n hs _ (put_ne h) (by show (s.2.set _ _).length = n; rw [List.length_set]; exact e)
theorem play_mirQ {cs : List Int} (h : cs ≠ []) (hs : List Int) : play true cs.reverse hs = mirT cs.length (play false cs hs) := fold_mirQ _ hs ([], cs) h rfl
theorem lay_right {B : Int} {n : Nat} {ts ws : List Int} (hn : 1 ≤ n) (hp : Poss n ts) (hw : IsWay n ts ws) (hB : ∀ t ∈ ts, t < B) (hB0 : 0 < B) :
    (play true (List.replicate n 0) (cow B ts ws)).1 = mirQ n (plc ws ts) := by
  have h := play_mirQ (cs := List.replicate n (0 : Int)) (fun e => by have := congrArg List.length e; rw [List.length_replicate] at this; simp only [List.length_nil] at this; omega) (cow B ts ws)
  rw [List.reverse_replicate, lay_all hn hp hw hB hB0, List.length_replicate] at h
  rw [h]; rfl
theorem plc_tops {ws ts : List Int} (h : ws.length = ts.length) : (plc ws ts).map (·.2) = ts := by
  refine List.ext_getElem? fun i => ?_
  by_cases hi : i < ts.length
  · rw [List.getElem?_map, plc_get h hi, get_of_getD hi]; rfl
  · rw [List.getElem?_eq_none (by rw [List.length_map, plc_len h]; omega), List.getElem?_eq_none (by omega)]
theorem plc_cols {ws ts : List Int} (h : ws.length = ts.length) (h0 : ∀ c ∈ ws, 0 ≤ c) : (plc ws ts).map (fun p => ((p.1 : Nat) : Int)) = ws := by
  refine List.ext_getElem? fun i => ?_
  by_cases hi : i < ts.length
  · have := h0 _ (Lc.getD_mem (show i < ws.length by omega))
    rw [List.getElem?_map, plc_get h hi, get_of_getD (show i < ws.length by omega)]
    show some (((ws.getD i 0).toNat : Nat) : Int) = _
    rw [Int.toNat_of_nonneg this]
  · rw [List.getElem?_eq_none (by rw [List.length_map, plc_len h]; omega), List.getElem?_eq_none (by omega)]
theorem mirQ_tops (n : Nat) (ps : List (Nat × Int)) : (mirQ n ps).map (·.2) = ps.map (·.2) := by unfold mirQ; rw [List.map_map]; rfl
theorem mirQ_cols {n : Nat} {ps : List (Nat × Int)} (h : ∀ p ∈ ps, p.1 < n) : (mirQ n ps).map (fun p => (n : Int) - 1 - ((p.1 : Nat) : Int)) = ps.map (fun p => ((p.1 : Nat) : Int)) := by
  unfold mirQ
  rw [List.map_map]
  refine List.map_congr_left fun p hp => ?_
  have := h p hp
  show (n : Int) - 1 - ((n - 1 - p.1 : Nat) : Int) = ((p.1 : Nat) : Int)
  omega
theorem plc_lt {n : Nat} {ws ts : List Int} (h : ∀ c ∈ ws, 0 ≤ c ∧ c < n) : ∀ p ∈ plc ws ts, p.1 < n := fun p hp => by
  obtain ⟨q, hq, rfl⟩ := List.mem_map.mp hp
  have := h q.1 (List.of_mem_zip hq).1
  show q.1.toNat < n
  omega
end Lc

namespace Lc
open PySem PySem.Spec PyProof.Rows L2
/-- data whose ints have up to 700 signs -/
structure NiceB (d : PyData) : Prop where
  sh : d.showable = true
  nd : d.hasDict = false
  dp : d.depth ≤ 40
  lf : d.leavesShort 700 = true
  bk : d.bulk ≤ 10000
def rReprX (K : PySem.W.Frag) : List V → Hp → VK → Prop := fun xs H Q =>
  (∃ i, xs = [V.int i] ∧ i.natAbs.log2 < 1920 ∧ Q (.str (toString i)) H) ∨ (xs = [V.non] ∧ Q (.str "None") H) ∨ (∃ a d, xs = [V.ref a] ∧ Dp K H (.ref a) d ∧ (Nice d ∨ NiceB d) ∧ Q (.str d.shown) H)
theorem call_repr_X {X : Cx} (hg : X.A.guards = some []) (hu : X.A.units + 64 < cLine) : CallR X (.builtin "repr") (rReprX X.K) := by
  intro pins s σ H xs us Q I r h
  rcases h with ⟨i, rfl, hz, q⟩ | ⟨rfl, q⟩ | ⟨a, d, rfl, hd, n, q⟩
  · obtain ⟨u, rfl, t, rfl⟩ := vals1 r
    exact PySem.P.repr_of_int hz ⟨.str _, H, I.tok _, ⟨_, rfl⟩, q⟩
  · obtain ⟨u, rfl, ru⟩ := vals1 r
    obtain rfl : u = Value.none := ru
    exact PySem.P.repr_of_none ⟨.str _, H, I.tok _, ⟨_, rfl⟩, q⟩
  · rcases n with n | n
    · exact call_repr_D hg hu pins s σ H _ us Q I r ⟨a, d, rfl, hd, n, q⟩
    · obtain ⟨u, rfl, ru⟩ := vals1 r
      obtain rfl : u = Value.ref a := ru
      obtain ⟨as, rd⟩ := Dp.reads I d (.ref a) (.ref a) hd rfl
      refine repr_of_reads' rd n.sh (PyData.noDict_hsm n.nd) hg (by have := n.dp; omega) (fun _ _ e => e) (fun h' v tk hk => ?_) ?_
      · exact ⟨.str d.shown, H, I.kept hk, ⟨_, rfl⟩, q⟩
      · have := PyData.shown_le_bulk 700 (by decide) d n.lf
        have := n.bk
        rw [sizeLine_eq]
        omega
theorem log_small {i : Int} (h : i.natAbs < 2 ^ 1919) : i.natAbs.log2 < 1920 := Nat.lt_trans (PySem.Flt.log2_lt_of (by decide) h) (by decide)
theorem niceB_ints {ns : List Int} (h : ∀ n ∈ ns, n.natAbs < 2 ^ 1919) (hl : ns.length ≤ 300) : NiceB (.list (ns.map PyData.int)) := by
  have a : ∀ l : List Int, (∀ n ∈ l, n.natAbs < 2 ^ 1919) → PyData.showableAll (l.map PyData.int) = true ∧ PyData.canLayAll0 (l.map PyData.int) = true ∧ PyData.depthAll (l.map PyData.int) = 0 ∧ PyData.leavesShortAll 700 (l.map PyData.int) = true ∧ PyData.bulkAll (l.map PyData.int) = l.length := fun l => by
    induction l with
    | nil => intro _; exact ⟨rfl, rfl, rfl, rfl, rfl⟩
    | cons n l ih =>
      intro h
      obtain ⟨a, b, c, d, e⟩ := ih fun x hx => h x (List.mem_cons_of_mem _ hx)
      have hn := h n List.mem_cons_self
      have hs : PyData.showable (.int n) = true := by
        show decide (n.natAbs.log2 < 1920) = true
        exact decide_eq_true (log_small hn)
      have hf : PyData.leavesShort 700 (.int n) = true := by
        simp only [PyData.leavesShort, decide_eq_true_eq]
        have e10 : (2 : Nat) ^ 1919 ≤ 10 ^ 600 := by decide +kernel
        have := int_text_length_le10 (a := n) (k := 600) (by decide) (Nat.lt_of_lt_of_le hn e10)
        show (Str.ofString (toString n)).length ≤ 700
        rw [PySem.ofString_length]
        omega
      refine ⟨?_, ?_, ?_, ?_, ?_⟩
      · simp only [List.map_cons, PyData.showableAll, hs, a, Bool.and_self]
      · simp only [List.map_cons, PyData.canLayAll0, PyData.canLay0, b, Bool.and_self]
      · simp only [List.map_cons, PyData.depthAll, PyData.depth, c]; rfl
      · simp only [List.map_cons, PyData.leavesShortAll, hf, d, Bool.and_self]
      · simp only [List.map_cons, PyData.bulkAll, PyData.bulk, e, List.length_cons]; omega
  obtain ⟨a, b, c, d, e⟩ := a ns h
  refine ⟨by simpa only [PyData.showable] using a, PyData.hasDict_of_canLay _ (by simpa only [PyData.canLay0] using b), ?_, by simpa only [PyData.leavesShort] using d, ?_⟩
  · simp only [PyData.depth, c]; decide
  · simp only [PyData.bulk, e]; omega
/-! ### binomials, numbers of ways -/
def binRow (n : Nat) : List Int := (List.range (n + 1)).map fun k => ((bin n k : Nat) : Int)
theorem binRow_len (n : Nat) : (binRow n).length = n + 1 := by unfold binRow; rw [List.length_map, List.length_range]
theorem binRow_get {n k : Nat} (h : k ≤ n) : (binRow n)[k]? = some ((bin n k : Nat) : Int) := by
  unfold binRow
  rw [List.getElem?_map, List.getElem?_range (by omega)]; rfl
theorem binRow_step {n i : Nat} {x y : Int} (hx : (0 :: binRow n)[i]? = some x) (hy : (binRow n ++ [0])[i]? = some y) : (binRow (n + 1))[i]? = some (x + y) := by
  have hi : i < n + 2 := by have := get_lt hx; rw [List.length_cons, binRow_len] at this; omega
  rw [binRow_get (by omega)]
  cases i with
  | zero =>
    obtain rfl : 0 = x := Option.some.inj hx
    rw [List.getElem?_append_left (by rw [binRow_len]; omega), binRow_get (by omega)] at hy
    obtain rfl := Option.some.inj hy
    rw [bin_zero, bin_zero]; rfl
  | succ k =>
    have hx' : (binRow n)[k]? = some x := hx
    rw [binRow_get (by omega)] at hx'
    obtain rfl := Option.some.inj hx'
    rw [bin_succ]
    rcases Nat.lt_or_ge k n with h | h
    · rw [List.getElem?_append_left (by rw [binRow_len]; omega), binRow_get (by omega)] at hy
      obtain rfl := Option.some.inj hy
      rw [Int.natCast_add]
    · have : k = n := by omega
      subst this
      rw [List.getElem?_append_right (by rw [binRow_len]; exact Nat.le_refl _), binRow_len, Nat.sub_self] at hy
      obtain rfl : 0 = y := Option.some.inj hy
      rw [bin_le k (k + 1) (by omega)]; rfl
theorem bin_pow : ∀ n k, k ≤ n → bin n k ≤ n ^ k
  | n, 0, _ => by rw [bin_zero]; exact Nat.le_refl 1
  | 0, k + 1, h => absurd h (by omega)
  | n + 1, k + 1, h => by
    rw [bin_succ]
    have h1 := bin_pow n k (by omega)
    have h2 : bin n (k + 1) ≤ n * n ^ k := by
      rcases Nat.lt_or_ge n (k + 1) with hl | hl
      · rw [bin_le n (k + 1) hl]; exact Nat.zero_le _
      · have := bin_pow n (k + 1) hl
        rw [Nat.pow_succ, Nat.mul_comm] at this; exact this
    have h3 : n ^ k ≤ (n + 1) ^ k := Nat.pow_le_pow_left (by omega) k
    calc bin n k + bin n (k + 1) ≤ n ^ k + n * n ^ k := Nat.add_le_add h1 h2
      _ = (n + 1) * n ^ k := by rw [Nat.add_mul, Nat.one_mul, Nat.add_comm]
      _ ≤ (n + 1) * (n + 1) ^ k := Nat.mul_le_mul_left _ h3
      _ = (n + 1) ^ (k + 1) := by rw [Nat.pow_succ, Nat.mul_comm]
theorem cnt_pow {n : Nat} : ∀ (l : List Nat), (∀ s ∈ l, s ≤ n) → cntW n l ≤ n ^ l.sum := snocN_ind (fun _ => Nat.le_refl 1) fun l s ih h => by
  rw [cntW_snoc, List.sum_append]
  simp only [List.sum_cons, List.sum_nil, Nat.add_zero]
  rw [Nat.pow_add]
  exact Nat.mul_le_mul (ih fun x hx => h x (List.mem_append_left _ hx)) (bin_pow n s (h s (List.mem_append_right _ (List.mem_singleton.mpr rfl))))
theorem pow_fits {n k : Nat} (hn : n ≤ 30) (hk : k ≤ 200) : n ^ k < 2 ^ 1000 := by
  have e : (30 : Nat) ^ 200 < 2 ^ 1000 := by decide +kernel
  exact Nat.lt_of_le_of_lt (Nat.le_trans (Nat.pow_le_pow_left hn k) (Nat.pow_le_pow_right (by decide) hk)) e
theorem rl_strict : ∀ l : List Int, l.Pairwise (· < ·) → (rl l).map (·.2) = List.replicate l.length 1 := snoc_ind (fun _ => rfl) fun l x ih h => by
  have h' := List.pairwise_append.mp h
  rw [sizes_new fun y hy => ?_, ih h'.1, List.length_append]
  · show List.replicate l.length 1 ++ [1] = List.replicate (l.length + 1) 1
    rw [List.replicate_succ']
  · have := h'.2.2 y (List.mem_of_getLast? hy) x (List.mem_singleton.mpr rfl)
    omega
theorem cnt_ones (n : Nat) : ∀ k, cntW n (List.replicate k 1) = n ^ k
  | 0 => rfl
  | k + 1 => by rw [List.replicate_succ', cntW_snoc, cnt_ones n k, bin_one, Nat.pow_succ]
theorem rl_same (v : Int) : ∀ k, (rl (List.replicate (k + 1) v)).map (·.2) = [k + 1]
  | 0 => rfl
  | k + 1 => by
    rw [List.replicate_succ', sizes_same (y := v) (by rw [List.replicate_succ', List.getLast?_append]; rfl) rfl, rl_same v k]; rfl
theorem cnt_same (n k : Nat) (v : Int) : cntW n ((rl (List.replicate k v)).map (·.2)) = bin n k := by
  cases k with
  | zero => rw [bin_zero]; rfl
  | succ k => rw [rl_same]; show 1 * bin n (k + 1) = _; rw [Nat.one_mul]
/-- zeros, then 1, 2, .. -/
def rise (n k : Nat) : List Int := List.replicate n 0 ++ (List.range k).map fun j => ((j : Nat) : Int) + 1
theorem rise_len (n k : Nat) : (rise n k).length = n + k := by unfold rise; rw [List.length_append, List.length_replicate, List.length_map, List.length_range]
theorem rise_at {n k i : Nat} (h : i < n + k) : (rise n k).getD i 0 = if i < n then 0 else (((i - n : Nat) : Int) + 1) := by
  rw [List.getD_eq_getElem?_getD]
  unfold rise
  by_cases hi : i < n
  · rw [if_pos hi, List.getElem?_append_left (by rw [List.length_replicate]; exact hi), List.getElem?_replicate, if_pos hi]; rfl
  · rw [if_neg hi, List.getElem?_append_right (by rw [List.length_replicate]; omega), List.length_replicate, List.getElem?_map, List.getElem?_range (by omega)]; rfl
theorem rise_poss {n k : Nat} (hn : 1 ≤ n) : Poss n (rise n k) := fun i hi => by
  rw [rise_len] at hi
  unfold okAt
  rw [rise_at hi]
  by_cases h : i < n
  · rw [if_pos h, if_pos h]; rfl
  · rw [if_neg h, if_neg h, rise_at (show i - 1 < n + k by omega), rise_at (show i - n < n + k by omega), Bool.and_eq_true_iff]
    constructor <;> refine decide_eq_true ?_ <;> split <;> omega
theorem rise_count {n k : Nat} : countW n (rise n k) = n ^ k := by
  unfold countW
  rw [show szs n (rise n k) = List.replicate k 1 by
    unfold rise
    rw [szs_zeros, rl_strict]
    · rw [List.length_map, List.length_range]
    · rw [List.pairwise_map]
      exact List.pairwise_lt_range.imp fun h => by omega]
  exact cnt_ones n k
theorem rise_tops {n k : Nat} (h : n + k ≤ 200) : IsTops (rise n k) := ⟨by rw [rise_len]; exact h, fun t ht => by
  unfold rise at ht
  rcases List.mem_append.mp ht with ht | ht
  · rw [(List.mem_replicate.mp ht).2]; decide
  · obtain ⟨j, hj, rfl⟩ := List.mem_map.mp ht
    have := List.mem_range.mp hj
    omega⟩
end Lc

namespace Lc
open PySem PySem.Spec PyProof.Rows L2
/-! ### spans of cards -/
/-- column, top, bottom of each card -/
def spn (cs hs : List Int) : List (Nat × Int × Int) := ((play false cs hs).1.zip hs).map fun q => (q.1.1, q.1.2, q.1.2 + q.2)
theorem spn_len (cs hs : List Int) : (spn cs hs).length = hs.length := by
  unfold spn
  rw [List.length_map, List.length_zip, play_len, Nat.min_self]
theorem spn_snoc (cs hs : List Int) (h : Int) : spn cs (hs ++ [h]) = spn cs hs ++ [(low false (play false cs hs).2, mn (play false cs hs).2, mn (play false cs hs).2 + h)] := by
  unfold spn
  rw [play_snoc]
  show ((((play false cs hs).1 ++ [(low false (play false cs hs).2, mn (play false cs hs).2)]).zip (hs ++ [h])).map _) = _
  rw [List.zip_append (play_len false cs hs), List.map_append]; rfl
theorem spn_take {cs hs : List Int} {i : Nat} {h : Int} (e : hs[i]? = some h) : spn cs (hs.take (i + 1)) = spn cs (hs.take i) ++ [(low false (play false cs (hs.take i)).2, mn (play false cs (hs.take i)).2, mn (play false cs (hs.take i)).2 + h)] := by
  rw [List.take_add_one, e]
  exact spn_snoc _ _ _
theorem spn_at {cs hs : List Int} {i : Nat} {q : Nat × Int} {h : Int} (e1 : (play false cs hs).1[i]? = some q) (e2 : hs[i]? = some h) : (spn cs hs)[i]? = some (q.1, q.2, q.2 + h) := by
  unfold spn
  rw [List.getElem?_map, show ((play false cs hs).1.zip hs)[i]? = some (q, h) from List.getElem?_zip_eq_some.mpr ⟨e1, e2⟩]; rfl
theorem spn_tops (cs hs : List Int) : (spn cs hs).map (fun p => p.2.1) = tops cs hs := by
  unfold spn tops
  rw [List.map_map]
  have : ∀ (a : List (Nat × Int)) (b : List Int), a.length = b.length → (a.zip b).map ((fun p : Nat × Int × Int => p.2.1) ∘ fun q : (Nat × Int) × Int => (q.1.1, q.1.2, q.1.2 + q.2)) = a.map (·.2) := fun a => by
    induction a with
    | nil => intro b h; rfl
    | cons x a ih =>
      intro b h
      cases b with
      | nil => cases h
      | cons y b =>
        show x.2 :: _ = x.2 :: _
        exact congrArg (x.2 :: ·) (ih b (by simpa using h))
  exact this _ _ (play_len false cs hs)
theorem spn_top {cs hs : List Int} {i : Nat} {p : Nat × Int × Int} (e : (spn cs hs)[i]? = some p) : (tops cs hs).getD i 0 = p.2.1 := by
  rw [← spn_tops, List.getD_eq_getElem?_getD, List.getElem?_map, e]; rfl
theorem spn_sum {cs hs : List Int} {i : Nat} {p : Nat × Int × Int} {h : Int} (e : (spn cs hs)[i]? = some p) (e2 : hs[i]? = some h) : p.2.2 = p.2.1 + h := by
  have hi := get_lt e2
  have e1 : (play false cs hs).1[i]? = some ((play false cs hs).1[i]'(by rw [play_len]; exact hi)) := List.getElem?_eq_getElem _
  rw [spn_at e1 e2] at e
  rw [← Option.some.inj e]
theorem spn_col {cs hs : List Int} (hne : cs ≠ []) {p : Nat × Int × Int} (h : p ∈ spn cs hs) : p.1 < cs.length := by
  unfold spn at h
  obtain ⟨q, hq, rfl⟩ := List.mem_map.mp h
  exact play_lt hne q.1 (List.of_mem_zip hq).1
theorem tops_in {cs hs : List Int} (hne : cs ≠ []) (hc : ∀ c ∈ cs, 0 ≤ c ∧ c ≤ 1000000000000000000000000000000) (hh : ∀ h ∈ hs, 1 ≤ h ∧ h ≤ 1000000000000000000000000000000) (hl : hs.length ≤ 200) :
    (∀ c ∈ (play false cs hs).2, 0 ≤ c ∧ c ≤ 1000000000000000000000000000000000) ∧ ∀ t ∈ tops cs hs, 0 ≤ t ∧ t ≤ 1000000000000000000000000000000000 := by
  have q := fold_high false 1000000000000000000000000000000 hs ([], cs) 1000000000000000000000000000000 hne (fun h hm => by have := hh h hm; omega) hc (fun t ht => by cases ht) (by decide)
  have hb : 1000000000000000000000000000000 + (hs.length : Int) * 1000000000000000000000000000000 ≤ 1000000000000000000000000000000000 := by omega
  exact ⟨fun c h => by have := q.1 c h; exact ⟨this.1, Int.le_trans this.2 hb⟩, fun t h => by have := q.2 t h; exact ⟨this.1, Int.le_trans this.2 hb⟩⟩
/-- the spans as they lie on the heap -/
def Tri (H : Hp) (l : List V) (ts : List (Nat × Int × Int)) : Prop := l.length = ts.length ∧ ∀ (i : Nat) (v : V) (p : Nat × Int × Int), l[i]? = some v → ts[i]? = some p → ∃ q, v = .ref q ∧ H q = some (.tup [.int (p.1 : Nat), .int p.2.1, .int p.2.2])
theorem Tri.nil {H : Hp} : Tri H [] [] := ⟨rfl, fun i v p e => by cases e⟩
theorem Tri.same {H H' : Hp} {l : List V} {ps : List (Nat × Int × Int)} (h : Tri H l ps) (s : Same H H') : Tri H' l ps := ⟨h.1, fun i v p e1 e2 => by
  obtain ⟨q, e, hq⟩ := h.2 i v p e1 e2
  exact ⟨q, e, s _ _ hq⟩⟩
theorem Tri.but {H H' : Hp} {a : Addr} {l : List V} {ps : List (Nat × Int × Int)} (h : Tri H l ps) (n : ∀ xs, H a ≠ some (.tup xs)) (s : But a H H') : Tri H' l ps := ⟨h.1, fun i v p e1 e2 => by
  obtain ⟨q, e, hq⟩ := h.2 i v p e1 e2
  exact ⟨q, e, s _ _ (fun z => n _ (z ▸ hq)) hq⟩⟩
theorem Tri.snoc {H : Hp} {l : List V} {ps : List (Nat × Int × Int)} {q : Addr} {p : Nat × Int × Int} (h : Tri H l ps) (hq : H q = some (.tup [.int (p.1 : Nat), .int p.2.1, .int p.2.2])) : Tri H (l ++ [.ref q]) (ps ++ [p]) := by
  refine ⟨by rw [List.length_append, List.length_append, h.1]; rfl, fun i v p' e1 e2 => ?_⟩
  by_cases hi : i < l.length
  · rw [List.getElem?_append_left hi] at e1
    rw [List.getElem?_append_left (by rw [← h.1]; exact hi)] at e2
    exact h.2 i v p' e1 e2
  · rw [List.getElem?_append_right (by omega)] at e1
    rw [List.getElem?_append_right (by rw [← h.1]; omega), ← h.1] at e2
    cases hk : i - l.length with
    | zero =>
      rw [hk] at e1 e2
      cases e1
      cases e2
      exact ⟨q, rfl, hq⟩
    | succ k => rw [hk] at e1; cases e1
/-- a comprehension over triples -/
theorem tri_lc {K : PySem.W.Frag} {a D : Addr} {l : List V} {ps : List (Nat × Int × Int)} {te : TE} {i j m : Nat} {vs : List Nat} {σ : L2.St} {H : Hp} {Qd : Hp → Prop} (fn : Nat × Int × Int → Int) (ha : H a = some (.lst l)) (hP : Tri H l ps) (hl : ps.length ≤ 1000) (nD : H D = none)
    (hw : ∀ u v x, wipe ((((wipe σ vs).set i (some u)).set j (some v)).set m (some x)) vs = wipe σ vs) (ht : ∀ p ∈ ps, ∀ (H' : Hp) (Q : VK), Q (.int (fn p)) H' → te ((((wipe σ vs).set i (some (.int (p.1 : Nat)))).set j (some (.int p.2.1))).set m (some (.int p.2.2))) H' Q)
    (k : ∀ H', Same H H' → H' D = some (.lst ((ps.map fn).map V.int)) → Qd H') :
    ∃ W : Nat → Nat → Hp → Prop, (∃ m, W 0 m (upd H D (.lst []))) ∧ ∀ i' m' H, W i' m' H →
      ((Itl K a).stop i' H ∧ Qd H) ∨ ((Itl K a).go i' H ∧ ∃ Nx : Hp → Prop, (∀ H', Nx H' → ∃ m'', m'' < m' ∧ W (i' + 1) m'' H') ∧ ∀ x H', (Itl K a).yld i' H x H' → (gTup K 3 (gCons (gName i) (gCons (gName j) (gCons (gName m) gNil)))) x (wipe σ vs) H' fun σ2 H2 => wipe σ2 vs = wipe σ vs ∧ tYes σ2 H2 fun b H3 =>
        if b = true then te σ2 H3 fun y H4 => ∃ acc, H4 D = some (.lst acc) ∧ acc.length < sizeLine ∧ Nx (upd H4 D (.lst (acc ++ [y]))) else Nx H3) := by
  refine lc_list (K := K) (a := a) (xs := l) (fun i H' => Same H H' ∧ H' D = some (.lst (((ps.map fn).take i).map V.int))) ⟨same_new _ nD, upd_same⟩ (fun i H' _ h => SqL.of (h.1 _ _ ha)) (fun k' x H' e h => ?_) (fun H' h => ?_)
  · obtain ⟨sm, eD⟩ := h
    have il : k' < ps.length := by rw [← hP.1]; exact get_lt e
    have ep := List.getElem?_eq_getElem il
    obtain ⟨z, rfl, hz⟩ := hP.2 k' x _ e ep
    refine ⟨z, [_, _, _], rfl, SqT.of (sm _ _ hz), rfl, _, [_, _], rfl, _, [_], rfl, _, [], rfl, rfl, hw _ _ _, ?_⟩
    show te _ H' _
    refine ht ps[k'] (List.mem_of_getElem? ep) _ _ ⟨_, eD, ?_, same_set sm nD, ?_⟩
    · rw [List.length_map, List.length_take, List.length_map]; exact small_of (m := 1000) (by omega) (by decide)
    · rw [upd_same]
      refine congrArg (fun z => some (HO.lst z)) (take_map_succ V.int ?_)
      rw [List.getElem?_map, ep]; rfl
  · obtain ⟨sm, eD⟩ := h
    have e1 : l.length = (ps.map fn).length := by rw [List.length_map]; exact hP.1
    rw [e1, List.take_length] at eD
    exact k H' sm eD
/-- the numbers of the spans that a test takes -/
def pick (p : Nat × Int × Int → Bool) (ts : List (Nat × Int × Int)) : List Nat := (List.range ts.length).filter fun i => p (ts.getD i (0, 0, 0))
theorem pick_snoc (p : Nat × Int × Int → Bool) {ts : List (Nat × Int × Int)} {i : Nat} {x : Nat × Int × Int} (e : ts[i]? = some x) : pick p (ts.take (i + 1)) = pick p (ts.take i) ++ (if p x = true then [i] else []) := by
  have hi := get_lt e
  unfold pick
  have l1 : (ts.take (i + 1)).length = i + 1 := by rw [List.length_take]; omega
  have l0 : (ts.take i).length = i := by rw [List.length_take]; omega
  rw [l1, l0, List.range_succ, List.filter_append]
  congr 1
  · refine List.filter_congr fun j hj => ?_
    have hj := List.mem_range.mp hj
    rw [List.getD_eq_getElem?_getD, List.getD_eq_getElem?_getD, List.getElem?_take_of_lt (by omega), List.getElem?_take_of_lt hj]
  · rw [List.filter_cons, List.getD_eq_getElem?_getD, List.getElem?_take_of_lt (by omega), e]
    show (if p x = true then _ else _) = _
    by_cases h : p x = true
    · rw [if_pos h, if_pos h]; rfl
    · rw [if_neg h, if_neg h]; rfl
theorem pick_len (p : Nat × Int × Int → Bool) (ts : List (Nat × Int × Int)) : (pick p ts).length ≤ ts.length := by
  unfold pick
  refine Nat.le_trans (List.length_filter_le _ _) ?_
  rw [List.length_range]; exact Nat.le_refl _
/-- a comprehension over enumerate of triples, with a test: the numbers -/
theorem pick_lc {K : PySem.W.Frag} {a D : Addr} {l : List V} {ts : List (Nat × Int × Int)} {g : TG} {tt : TT} {te : TE} {vs : List Nat} {σ : L2.St} {H : Hp} {Qd : Hp → Prop} (p : Nat × Int × Int → Bool) (ha : H a = some (.lst l)) (hP : Tri H l ts) (hl : ts.length ≤ 1000) (nD : H D = none)
    (hs : ∀ (i : Nat) (x : Nat × Int × Int) (q Tp : Addr) (H' : Hp), H' Tp = some (.tup [.int (i : Nat), .ref q]) → H' q = some (.tup [.int (x.1 : Nat), .int x.2.1, .int x.2.2]) → ∀ R : L2.St → Hp → Prop,
      (∀ σ2, wipe σ2 vs = wipe σ vs → (∀ (k : Bool → Hp → Prop), k (p x) H' → tt σ2 H' k) → (∀ Q : VK, Q (.int (i : Nat)) H' → te σ2 H' Q) → R σ2 H') → g (.ref Tp) (wipe σ vs) H' R)
    (k : ∀ H', Same H H' → H' D = some (.lst ((nat2 (pick p ts)).map V.int)) → Qd H') :
    ∃ W : Nat → Nat → Hp → Prop, (∃ m, W 0 m (upd H D (.lst []))) ∧ ∀ i m H, W i m H →
      (((Ite K a).stop i H ∧ Qd H) ∨ ((Ite K a).go i H ∧ ∃ Nx : Hp → Prop, (∀ H', Nx H' → ∃ m', m' < m ∧ W (i + 1) m' H') ∧
        ∀ x H', (Ite K a).yld i H x H' → g x (wipe σ vs) H' fun σ2 H2 => wipe σ2 vs = wipe σ vs ∧ tt σ2 H2 fun b H3 =>
          if b = true then te σ2 H3 fun y H4 => ∃ acc, H4 D = some (.lst acc) ∧ acc.length < sizeLine ∧ Nx (upd H4 D (.lst (acc ++ [y]))) else Nx H3)) := by
  refine lc_enum (K := K) (a := a) (xs := l) (fun i H' => Same H H' ∧ H' D = some (.lst ((nat2 (pick p (ts.take i))).map V.int))) ⟨same_new _ nD, upd_same⟩ (fun i H' _ h => SqL.of (h.1 _ _ ha)) (fun i v H' T e h nT => ?_) (fun H' h => ?_)
  · obtain ⟨sm, eD⟩ := h
    have il : i < ts.length := by rw [← hP.1]; exact get_lt e
    have ep := List.getElem?_eq_getElem il
    obtain ⟨z, rfl, hz⟩ := hP.2 i v _ e ep
    have sT := same_new (H := H') (p := T) (.tup [.int (i : Nat), .ref z]) nT
    refine hs i ts[i] z T _ upd_same (sT _ _ (sm _ _ hz)) _ fun σ2 hw htt hte => ⟨hw, htt _ ?_⟩
    have st := pick_snoc p ep
    have S1 := sm.trans sT
    have eD1 := sT _ _ eD
    by_cases hp : p ts[i] = true
    · rw [if_pos hp] at st
      refine ite_t hp (hte _ ⟨_, eD1, ?_, same_set S1 nD, ?_⟩)
      · rw [List.length_map]
        unfold nat2
        rw [List.length_map]
        have := pick_len p (ts.take i)
        rw [List.length_take] at this
        exact small_of (m := 1000) (by omega) (by decide)
      · rw [upd_same, st, nat2_append, List.map_append]; rfl
    · rw [if_neg hp, List.append_nil] at st
      exact ite_f hp ⟨S1, by rw [st]; exact eD1⟩
  · obtain ⟨sm, eD⟩ := h
    rw [hP.1, List.take_length] at eD
    exact k H' sm eD
end Lc

namespace Lc
open PySem PySem.Spec PyProof.Rows L2
/-- a list that is read, + a list -/
def rCatR (K : PySem.W.Frag) : R2 := fun x y H Q => ∃ l b xs zs, x = .ref l ∧ y = .ref b ∧ SqL K H l xs ∧ SqL K H b zs ∧ xs.length + zs.length ≤ sizeLine ∧ ∀ p, H p = none → Q (.ref p) (upd H p (.lst (xs ++ zs)))
theorem op_catR {X : Cx} : OpR X (binaryOp .Add) (rCatR X.K) := by
  intro pins s σ H x y v u Q I rx ry h
  obtain ⟨l, b, xs, zs, rfl, rfl, hH, hB, hz, q⟩ := h
  cases rx
  cases ry
  obtain ⟨its, r, ⟨⟨cls, dd, data, sl⟩, n, e, hc, hd, hs⟩, hl⟩ := I.list hH
  obtain ⟨its2, r2, ⟨⟨cls2, dd2, data2, sl2⟩, n2, e2, hc2, hd2, hs2⟩, hl2⟩ := I.list hB
  simp only at hc hd hs hc2 hd2 hs2
  subst hc hd hs hc2 hd2 hs2
  have l1 := r.length
  have l2 := r2.length
  have ea : its.toArray ++ its2.toArray = (its ++ its2).toArray := by simp
  refine concat_meets ⟨_, e, rfl⟩ ⟨_, e2, rfl⟩ noFill_list_add seq_list_add PySem.F.slot_list_add PySem.F.entry_list_add (PySem.F.args_list_add_2 _ _) (list_addW l b its.toArray its2.toArray n n2 _ _ sl sl2 (by rw [List.size_toArray, List.size_toArray]; omega)) ⟨e, e2, ?_⟩
  rw [ea]
  exact ⟨.ref _, _, I.lnew (t' := s.toks) (r.append r2) (by rw [List.length_append]; omega), rfl, q _ I.fresh⟩
end Lc

namespace Lc
open PySem PySem.Spec PyProof.Rows L2
/-! any value: scalars, lists and tuples of ints, an empty dict; and lists of these -/
/-- a short text -/
def ShortS (x : Str) : Prop := x.cps.size ≤ 200 ∧ ∀ c ∈ x.cps.toList, c < 16 ^ 8
inductive Sv (H : Hp) : V → PyData → Prop where
  | non : Sv H .non .none
  | bl (b : Bool) : Sv H (.bl b) (.bool b)
  | int (i : Int) (h : i.natAbs < 10 ^ 90) : Sv H (.int i) (.int i)
  | one {x : Str} (h : ShortS x := by exact ⟨by decide, by decide⟩) : Sv H (.str x) (.str x)
  | tupB {a : Addr} (b : Bool) (e : H a = some (.tup [.bl b])) : Sv H (.ref a) (.tuple [.bool b])
  | lst {a : Addr} {ns : List Int} (e : H a = some (.lst (ns.map V.int))) (h : ∀ n ∈ ns, n.natAbs < 10 ^ 90) (hl : ns.length ≤ 300) : Sv H (.ref a) (.list (ns.map PyData.int))
  | tup {a : Addr} {ns : List Int} (e : H a = some (.tup (ns.map V.int))) (h : ∀ n ∈ ns, n.natAbs < 10 ^ 90) (hl : ns.length ≤ 300) : Sv H (.ref a) (.tuple (ns.map PyData.int))
  | dct {a : Addr} (e : H a = some (.dK [])) : Sv H (.ref a) (.dict [])
inductive SvAll (H : Hp) : List V → List PyData → Prop where
  | nil : SvAll H [] []
  | cons {x : V} {d : PyData} {xs : List V} {ds : List PyData} : Sv H x d → SvAll H xs ds → SvAll H (x :: xs) (d :: ds)
inductive Th (H : Hp) : V → PyData → Prop where
  | sv {x : V} {d : PyData} (h : Sv H x d) : Th H x d
  | row {a : Addr} {xs : List V} {ds : List PyData} (e : H a = some (.lst xs)) (h : SvAll H xs ds) (hl : xs.length ≤ 300) : Th H (.ref a) (.list ds)
theorem Sv.same {H H' : Hp} {x : V} {d : PyData} (h : Sv H x d) (s : Same H H') : Sv H' x d := by
  cases h with
  | non => exact .non
  | bl b => exact .bl b
  | int i h => exact .int i h
  | one h => exact .one h
  | tupB b e => exact .tupB b (s _ _ e)
  | lst e h hl => exact .lst (s _ _ e) h hl
  | tup e h hl => exact .tup (s _ _ e) h hl
  | dct e => exact .dct (s _ _ e)
theorem SvAll.same {H H' : Hp} (s : Same H H') : ∀ {xs : List V} {ds : List PyData}, SvAll H xs ds → SvAll H' xs ds
  | _, _, .nil => .nil
  | _, _, .cons h hs => .cons (h.same s) (SvAll.same s hs)
theorem Th.same {H H' : Hp} {x : V} {d : PyData} (h : Th H x d) (s : Same H H') : Th H' x d := by
  cases h with
  | sv h => exact .sv (h.same s)
  | row e h hl => exact .row (s _ _ e) (h.same s) hl
theorem SvAll.len {H : Hp} : ∀ {xs : List V} {ds : List PyData}, SvAll H xs ds → ds.length = xs.length
  | _, _, .nil => rfl
  | _, _, .cons _ hs => by rw [List.length_cons, List.length_cons, SvAll.len hs]
/-- what repr asks of the data -/
structure Sh (k N : Nat) (d : PyData) : Prop where
  sh : d.showable = true
  dp : d.depth ≤ k
  lf : d.leavesShort 100 = true
  bk : d.bulk ≤ N
theorem Nc.toSh {k N : Nat} {d : PyData} (h : Nc k N d) : Sh k N d := ⟨h.sh, h.dp, h.lf, h.bk⟩
theorem Sh.mono {k N k' N' : Nat} {d : PyData} (h : Sh k N d) (h1 : k ≤ k') (h2 : N ≤ N') : Sh k' N' d := ⟨h.sh, Nat.le_trans h.dp h1, h.lf, Nat.le_trans h.bk h2⟩
theorem sh_all {k N : Nat} : ∀ {ds : List PyData}, (∀ d ∈ ds, Sh k N d) → PyData.showableAll ds = true ∧ PyData.depthAll ds ≤ k ∧ PyData.leavesShortAll 100 ds = true ∧ PyData.bulkAll ds ≤ ds.length * (N + 1)
  | [], _ => ⟨rfl, Nat.zero_le _, rfl, Nat.zero_le _⟩
  | d :: ds, h => by
    have h1 := h d List.mem_cons_self
    obtain ⟨a, c, e, f⟩ := sh_all fun x hx => h x (List.mem_cons_of_mem d hx)
    refine ⟨?_, ?_, ?_, ?_⟩
    · simp only [PyData.showableAll, h1.sh, a, Bool.and_self]
    · simp only [PyData.depthAll]
      exact Nat.max_le.mpr ⟨h1.dp, c⟩
    · simp only [PyData.leavesShortAll, h1.lf, e, Bool.and_self]
    · simp only [PyData.bulkAll, List.length_cons]
      have := h1.bk
      rw [Nat.add_mul]
      omega
theorem sh_list {k N : Nat} {ds : List PyData} (h : ∀ d ∈ ds, Sh k N d) : Sh (k + 1) (ds.length * (N + 1)) (.list ds) := by
  obtain ⟨a, c, e, f⟩ := sh_all h
  refine ⟨by simpa only [PyData.showable] using a, ?_, by simpa only [PyData.leavesShort] using e, by simpa only [PyData.bulk] using f⟩
  simp only [PyData.depth]
  omega
theorem Sv.shd {H : Hp} {x : V} {d : PyData} (h : Sv H x d) : Sh 1 301 d := by
  cases h with
  | non => exact ⟨rfl, by decide, rfl, by decide⟩
  | bl b => cases b <;> exact ⟨rfl, by decide, rfl, by decide⟩
  | int i h => exact (nc_int h).toSh.mono (by decide) (by decide)
  | one h => exact ⟨rfl, by simp only [PyData.depth]; decide, by simpa only [PyData.leavesShort, List.all_eq_true, decide_eq_true_eq] using h.2, by simp only [PyData.bulk]; exact Nat.le_trans h.1 (by decide)⟩
  | tupB b e => cases b <;> exact ⟨rfl, by decide, rfl, by decide⟩
  | lst e h hl => exact (nc_ints h hl).toSh.mono (by decide) (by decide)
  | tup e h hl =>
    rename_i ns
    have q := nc_tup (k := 0) (N := 0) (ds := ns.map PyData.int) fun d hd => by
      obtain ⟨n, hn, rfl⟩ := List.mem_map.mp hd
      exact nc_int (h n hn)
    rw [List.length_map] at q
    exact q.toSh.mono (by decide) (by omega)
  | dct e => exact ⟨by decide, by decide, by decide, by decide⟩
theorem SvAll.shd {H : Hp} : ∀ {xs : List V} {ds : List PyData}, SvAll H xs ds → ∀ d ∈ ds, Sh 1 301 d
  | _, _, .nil, d, hd => by cases hd
  | _, _, .cons h hs, d, hd => by
    rcases List.mem_cons.mp hd with rfl | hd
    · exact h.shd
    · exact SvAll.shd hs d hd
theorem Th.shd {H : Hp} {x : V} {d : PyData} (h : Th H x d) : Sh 2 90600 d := by
  cases h with
  | sv h => exact h.shd.mono (by decide) (by decide)
  | row e h hl =>
    refine (sh_list h.shd).mono (by decide) ?_
    rw [h.len]
    have := Nat.mul_le_mul_right 302 hl
    omega
theorem Sh.short {k N : Nat} {d : PyData} (h : Sh k N d) (hN : N ≤ 100000) : d.shown.length ≤ sizeLine := by
  have := PyData.shown_le_bulk 100 (by decide) d h.lf
  have := h.bk
  rw [sizeLine_eq]
  omega
section
variable {X : Cx} {pins : List (Addr × Obj)} {σ : L2.St} {H : Hp} {s : Shared}
theorem ints_read {h : Heap} : ∀ {ns : List Int} {us : List Value}, Vals (ns.map V.int) us → ReadsAll h us (ns.map PyData.int) []
  | [], _, r => by cases r; exact .nil
  | n :: ns, _, r => by
    cases r with
    | cons r1 r2 =>
      obtain ⟨t, rfl⟩ := r1
      exact ReadsAll.cons (as := []) (bs := []) (.int n t) (ints_read r2)
theorem Sv.reads (I : Inv X pins σ H s) {x : V} {d : PyData} {u : Value} (h : Sv H x d) (r : RelV x u) : ∃ as, Reads s.heap u d as ∧ (d.hasDict = true → sysModules ∉ as) := by
  cases h with
  | non => cases r; exact ⟨_, .none, fun _ => by simp⟩
  | bl b => cases r; exact ⟨_, .bool b, fun _ => by simp⟩
  | int i h => obtain ⟨t, rfl⟩ := r; exact ⟨_, .int i t, fun _ => by simp⟩
  | one h => obtain ⟨t, rfl⟩ := r; exact ⟨_, .str _ t, fun _ => by simp⟩
  | tupB b e =>
    cases r
    obtain ⟨its, rv, ⟨o, ho, hc, n, hd⟩, _⟩ := I.tuple (SqT.of e)
    cases rv with
    | cons r1 r2 =>
      cases r2
      cases r1
      exact ⟨_, Reads.tuple ho hc hd (.cons (.bool b) .nil), fun _ => by simp⟩
  | lst e h hl =>
    cases r
    obtain ⟨its, rv, ⟨o, n, ho, hc, _, hd⟩, _⟩ := I.list (SqL.of e)
    exact ⟨_, Reads.list ho hc hd (ints_read rv), PyData.noDict_hsm (PyData.hasDict_of_canLay _ (nc_ints h hl).cl)⟩
  | tup e h hl =>
    cases r
    obtain ⟨its, rv, ⟨o, ho, hc, n, hd⟩, _⟩ := I.tuple (SqT.of e)
    exact ⟨_, Reads.tuple ho hc hd (ints_read rv), fun _ => by simp⟩
  | @dct a e =>
    cases r
    obtain ⟨_, ha, vs, kv, o, es, ep, ho, hx, hd, hk, hp, _⟩ := dk_of I.hok e
    cases kv
    have e0 : es.toList = [] := by
      cases hl : es.toList with
      | nil => rfl
      | cons y ys => rw [hl] at hp; cases hp
    refine ⟨_, Reads.dict (as := []) (bs := []) ho hx.1 hd (by rw [e0]; exact .nil) (by rw [e0]; exact .nil), fun _ hm => ?_⟩
    have : sysModules = a := by simpa using hm
    rw [this] at ha
    simp at ha
theorem SvAll.reads (I : Inv X pins σ H s) : ∀ {xs : List V} {ds : List PyData} {us : List Value}, SvAll H xs ds → Vals xs us → (∀ t ∈ PyData.shownAll ds, t.length ≤ sizeLine) →
    ∃ as bs, ReadsAll s.heap us ds as ∧ ReadAtMost s.heap (PyData.depthAll ds) bs ∧ ReprAllK X.prog X.w bs s.heap (PyData.depthAll ds) us (PyData.shownAll ds)
  | _, _, _, .nil, r, _ => by
    cases r
    exact ⟨[], [], .nil, (fun _ h => nomatch h), by simp only [PyData.shownAll]; exact .nil⟩
  | _, _, _, .cons (d := d) (ds := ds) h hs, r, hz => by
    cases r with
    | cons r1 r2 =>
      obtain ⟨as, q1, q2⟩ := h.reads I r1
      obtain ⟨b1, hb1, k1⟩ := ReprK.of_reads (prog := X.prog) (w := X.w) q1 h.shd.sh q2 (hz _ (by simp only [PyData.shownAll]; exact List.mem_cons_self ..))
      obtain ⟨as2, b2, q3, hb2, k2⟩ := SvAll.reads I hs r2 (fun t ht => hz t (by simp only [PyData.shownAll]; exact List.mem_cons_of_mem _ ht))
      refine ⟨_, b1 ++ b2, .cons q1 q3, ?_, ?_⟩
      · intro b hm
        simp only [PyData.depthAll]
        rcases List.mem_append.mp hm with hm | hm
        · obtain ⟨d', as', r', hd'⟩ := hb1 b hm
          exact ⟨d', as', r', Nat.le_trans hd' (Nat.le_max_left _ _)⟩
        · obtain ⟨d', as', r', hd'⟩ := hb2 b hm
          exact ⟨d', as', r', Nat.le_trans hd' (Nat.le_max_right _ _)⟩
      · simp only [PyData.depthAll, PyData.shownAll]
        exact .cons ((k1.more fun b hb => List.mem_append_left _ hb).level_le (Nat.le_max_left _ _)) (k2.more_le (fun b hb => List.mem_append_right _ hb) (Nat.le_max_right _ _))
end
def rReprT : List V → Hp → VK → Prop := fun xs H Q => ∃ x d, xs = [x] ∧ Th H x d ∧ Q (.str d.shown) H
theorem call_repr_T {X : Cx} (hg : X.A.guards = some []) (hu : X.A.units + 64 < cLine) : CallR X (.builtin "repr") rReprT := by
  intro pins s σ H xs us Q I r h
  obtain ⟨x, d, rfl, h, q⟩ := h
  obtain ⟨u, rfl, ru⟩ := vals1 r
  have sh := h.shd
  have hz := sh.short (by decide)
  have hdp := sh.dp
  have viaR : ∀ {a : Addr} {as : List Addr}, Reads s.heap (.ref a) d as → (d.hasDict = true → sysModules ∉ as) → u = .ref a → wpAny (model X.prog X.w) X.A (call (.builtin "repr") [u]) (fun v s' => ∃ x' H', Inv X pins σ H' s' ∧ RelV x' v ∧ Q x' H') X.xe s := fun rd hs e => by
    subst e
    exact repr_of_reads' rd sh.sh hs hg (by omega) (fun _ _ e => e) (fun h' v tk hk => ⟨.str d.shown, H, I.kept hk, ⟨_, rfl⟩, q⟩) hz
  cases h with
  | sv h =>
    cases h with
    | non =>
      cases ru
      exact PySem.P.repr_of_none ⟨.str _, H, I.tok _, ⟨_, rfl⟩, by simpa only [PyData.shown] using q⟩
    | bl b =>
      cases ru
      exact PySem.P.repr_of_bool ⟨.str _, H, I.tok _, ⟨_, rfl⟩, by simpa only [PyData.shown] using q⟩
    | int i h =>
      obtain ⟨t, rfl⟩ := ru
      exact PySem.P.repr_of_int (by simpa [PyData.showable] using sh.sh) ⟨.str _, H, I.tok _, ⟨_, rfl⟩, by simpa only [PyData.shown] using q⟩
    | one =>
      obtain ⟨t, rfl⟩ := ru
      exact PySem.P.repr_of_str ⟨.str _, H, I.tok _, ⟨_, rfl⟩, by simpa only [PyData.shown] using q⟩ (by simpa only [PyData.shown] using hz)
    | tupB b e =>
      cases ru
      obtain ⟨as, r1, r2⟩ := (Sv.tupB b e).reads I (u := .ref _) rfl
      exact viaR r1 r2 rfl
    | lst e h hl =>
      cases ru
      obtain ⟨as, r1, r2⟩ := (Sv.lst e h hl).reads I (u := .ref _) rfl
      exact viaR r1 r2 rfl
    | tup e h hl =>
      cases ru
      obtain ⟨as, r1, r2⟩ := (Sv.tup e h hl).reads I (u := .ref _) rfl
      exact viaR r1 r2 rfl
    | dct e =>
      cases ru
      obtain ⟨as, r1, r2⟩ := (Sv.dct e).reads I (u := .ref _) rfl
      exact viaR r1 r2 rfl
  | @row a ys ds e h hl =>
    cases ru
    obtain ⟨its, rv, ⟨o, n, ho, hc, _, hd⟩, _⟩ := I.list (SqL.of e)
    have hz' : (listText (PyData.shownAll ds)).length ≤ sizeLine := by simpa only [PyData.shown] using hz
    obtain ⟨as, bs, hr, hb, hk⟩ := h.reads I rv (fun t ht => Nat.le_trans (listText_mem_le ht) hz')
    have rd : Reads s.heap (.ref a) (.list ds) _ := Reads.list ho hc hd hr
    have hna : a ∉ bs := not_mem_of_deeper rd (by simp only [PyData.depth]; omega) hb
    simp only [PyData.depth] at hdp
    simp only [PyData.shown] at q
    refine call_repr_slot (T := "list") (idr := "list.__repr__") (by omega) ⟨o, ho, hc⟩ F.slot_list_repr.toG ?_
    have fin : ∀ (h' : Heap) (t : Tok) (tk : Nat), (∀ b o, s.heap.get? b = some o → h'.get? b = some o) → ∃ x t, (Value.str (listText (PyData.shownAll ds)) t) = .str x t ∧ True := fun _ t _ _ => ⟨_, t, rfl, trivial⟩
    cases its with
    | nil =>
      have hl0 := rv.length
      cases hr
      simp only [PyData.shownAll, listText_nil] at q
      exact call_list_repr_empty ⟨o, ho, hc⟩ ho hd ⟨_, _, rfl, .str _, H, I.tok _, ⟨_, rfl⟩, q⟩
    | cons y l =>
      exact call_list_reprK ho hc hd hna (by simpa using hk.length_eq) (fun i y e => hk.item i y (by simpa using e)) hg (fun b _ => Clear.nil b) (by show X.A.units + 1 + _ < cLine; omega) (fun _ _ e => e) (fun h' t tk hk' => ⟨_, _, rfl, .str _, H, I.kept hk', ⟨_, rfl⟩, q⟩) hz'
end Lc

namespace Lc
open PySem PySem.Spec PyProof.Rows L2
open PySem.Builtin PySem.Builtin.Str
/-! texts: repeated, filled up on the right by a sign, as a list -/
def repS (a : Str) (n : Nat) : Str := ⟨(List.replicate n a.cps).foldl (· ++ ·) #[]⟩
theorem foldl_app : ∀ (l : List (Array Nat)) (b : Array Nat), (l.foldl (· ++ ·) b).toList = b.toList ++ (l.map Array.toList).flatten
  | [], b => by simp
  | x :: l, b => by
    rw [List.foldl_cons, foldl_app l (b ++ x)]
    simp
theorem repS_list (a : Str) (n : Nat) : (repS a n).cps.toList = (List.replicate n a.cps.toList).flatten := by
  unfold repS
  show ((List.replicate n a.cps).foldl (· ++ ·) #[]).toList = _
  rw [foldl_app, List.map_replicate]
  rfl
theorem str_ext {a b : Str} (h : a.cps.toList = b.cps.toList) : a = b := by
  obtain ⟨a⟩ := a
  obtain ⟨b⟩ := b
  exact congrArg Str.mk (Array.toList_inj.mp h)
theorem str_len (a : Str) : a.length = a.cps.toList.length := rfl
theorem repS_len (a : Str) (n : Nat) : (repS a n).length = n * a.length := by
  rw [str_len, repS_list, List.length_flatten, List.map_replicate, str_len]
  simp
theorem repS_one (a : Str) : repS a 1 = a := str_ext (by rw [repS_list]; simp)
theorem repS_nil {a : Str} (h : a.length = 0) (n : Nat) : repS a n = a := str_ext (by
  have e : a.cps.toList = [] := List.length_eq_zero_iff.mp h
  rw [repS_list, e]
  simp)
/-- text * int -/
def rRepS : R2 := fun x y H Q => ∃ (a : Str) (k : Int), x = .str a ∧ y = .int k ∧ -1000 ≤ k ∧ k ≤ 1000 ∧ a.length ≤ 1000 ∧ Q (.str (repS a k.toNat)) H
theorem op_rep_str {X : Cx} : OpR X (binaryOp .Mult) rRepS := by
  intro pins s σ H x y v u Q I rx ry h
  obtain ⟨a, k, rfl, rfl, k0, k1, la, q⟩ := h
  obtain ⟨t, rfl⟩ := rx
  obtain ⟨t', rfl⟩ := ry
  have hz : a.length * k.toNat ≤ 1000000 := Nat.le_trans (Nat.mul_le_mul la (show k.toNat ≤ 1000 by omega)) (by decide)
  have hs : (1000000 : Nat) ≤ sizeLine := by rw [sizeLine_eq]; decide
  refine PySem.P.mul_str ?_ (fun h1 _ => ?_) (fun _ _ => ?_) ?_
  · have e1 : ¬ k < -(2 ^ 63 : Int) := by omega
    have e2 : ¬ k ≥ 2 ^ 63 := by omega
    rw [decide_eq_false e1, decide_eq_false e2]; rfl
  · have : (2 ^ 63 - 1) / (1000 : Int) ≤ (2 ^ 63 - 1) / k := by
      rw [Int.le_ediv_iff_mul_le (by omega)]
      have : ((2 ^ 63 - 1) / (1000 : Int)) = 9223372036854775 := by decide
      rw [this]
      omega
    have e : ((2 ^ 63 - 1) / (1000 : Int)) = 9223372036854775 := by decide
    omega
  · unfold tooLong
    exact decide_eq_false (by omega)
  · by_cases h1 : k < 1
    · rw [if_pos h1]
      refine ⟨by decide, .str _, H, I.tok _, ⟨_, rfl⟩, ?_⟩
      have : k.toNat = 0 := by omega
      rw [this] at q
      exact q
    · rw [if_neg h1]
      by_cases h2 : (k == 1 || a.length == 0) = true
      · rw [if_pos h2]
        have e : repS a k.toNat = a := by
          rw [Bool.or_eq_true, beq_iff_eq, beq_iff_eq] at h2
          rcases h2 with rfl | h2
          · exact repS_one a
          · exact repS_nil h2 _
        rw [e] at q
        exact ⟨.str a, H, I.tok _, ⟨_, rfl⟩, q⟩
      · rw [if_neg h2]
        refine ⟨?_, .str _, H, I.tok _, ⟨_, rfl⟩, q⟩
        show (repS a k.toNat).length ≤ sizeLine
        rw [repS_len, Nat.mul_comm]
        omega
/-- filled up on the right -/
def padS (a : Str) (n : Nat) (c : Nat) : Str := ⟨a.cps ++ Array.replicate (n - a.length) c⟩
theorem padS_list (a : Str) (n c : Nat) : (padS a n c).cps.toList = a.cps.toList ++ List.replicate (n - a.length) c := by
  show (a.cps ++ Array.replicate (n - a.length) c).toList = _
  rw [Array.toList_append, Array.toList_replicate]
theorem gives_ljust2 (x : Str) (i : Int) (c : Nat) (t u v : Tok) (hr : (decide (i < -(2 ^ 63 : Int)) || decide (i ≥ 2 ^ 63)) = false) (hl : tooLong i.toNat = false) :
    Gives (Builtin.«str.ljust» ⟨[.str x t, .int i u, .str ⟨#[c]⟩ v], []⟩) (if i ≤ x.length then .val (.str x t) else .str (padded x 0 (i.toNat - x.length) c)) := by
  show Gives (do
             let width ← asSsize s!"str.ljust" (.int i u)
             if width ≤ x.length then (do rule s!"str.ljust.long-enough"; ret (.str x t)) else
             if tooLong width.toNat = true then unsupported s!"str.ljust:memory" else retStr (padded x 0 (width.toNat - x.length) c)) _
  rw [asSsize_int _ _ _ hr]
  show Gives (if i ≤ x.length then (do rule s!"str.ljust.long-enough"; ret (.str x t)) else if tooLong i.toNat = true then unsupported s!"str.ljust:memory" else retStr (padded x 0 (i.toNat - x.length) c)) _
  rw [hl]
  by_cases h : i ≤ (x.length : Int)
  · rw [if_pos h, if_pos h]; exact .rule (.of_eq rfl)
  · rw [if_neg h, if_neg h]; exact .of_eq rfl
theorem mt_ljust2 {X : Cx} : MtR X "str.ljust" (fun x xs H Q => ∃ (a : Str) (n c : Nat), x = .str a ∧ xs = [.int (n : Nat), .str ⟨#[c]⟩] ∧ n ≤ 100000 ∧ Q (.str (padS a n c)) H) := by
  intro pins s σ H x xs v us Q I rx rs h
  obtain ⟨a, n, c, rfl, rfl, hn, q⟩ := h
  obtain ⟨t, rfl⟩ := rx
  cases rs with
  | cons r1 rs =>
    cases rs with
    | cons r2 rs =>
      cases rs
      obtain ⟨u, rfl⟩ := r1
      obtain ⟨z, rfl⟩ := r2
      have hs : (100000 : Nat) ≤ sizeLine := by rw [sizeLine_eq]; decide
      refine call_gives PySem.F.slot_str_ljust (typeIs_str _ _ _) PySem.F.entry_str_ljust (PySem.F.args_str_ljust_3 _ _ _) (gives_ljust2 a n c t u z ?_ ?_) ?_
      · have e1 : ¬ (n : Int) < -(2 ^ 63 : Int) := by omega
        have e2 : ¬ (n : Int) ≥ 2 ^ 63 := by omega
        rw [decide_eq_false e1, decide_eq_false e2]; rfl
      · unfold tooLong
        exact decide_eq_false (by omega)
      · by_cases h1 : (n : Int) ≤ (a.length : Int)
        · rw [if_pos h1]
          have e : padS a n c = a := str_ext (by
            rw [padS_list, show n - a.length = 0 by omega]
            simp)
          rw [e] at q
          exact ⟨.str a, H, I.tok _, ⟨_, rfl⟩, q⟩
        · rw [if_neg h1]
          have e : padded a 0 ((n : Int).toNat - a.length) c = padS a n c := str_ext (by
            rw [padS_list]
            show (Array.replicate 0 c ++ a.cps ++ Array.replicate ((n : Int).toNat - a.length) c).toList = _
            simp)
          rw [e]
          refine ⟨?_, .str _, H, I.tok _, ⟨_, rfl⟩, q⟩
          show (padS a n c).length ≤ sizeLine
          rw [str_len, padS_list, List.length_append, List.length_replicate, ← str_len]
          omega
/-- list(text) -/
def signs (x : Str) : List V := x.cps.toList.map fun c => .str ⟨#[c]⟩
theorem call_list_S {X : Cx} (hc : X.calm = true) : CallR X (.type "list") (fun xs H Q => ∃ x : Str, xs = [.str x] ∧ x.length ≤ 10000 ∧ ∀ l, H l = none → Q (.ref l) (upd H l (.lst (signs x)))) := by
  intro pins s σ H xs us Q I r h
  obtain ⟨x, rfl, hz, q⟩ := h
  obtain ⟨u, rfl, t, rfl⟩ := vals1 r
  have hs : (10000 : Nat) ≤ sizeLine := by rw [sizeLine_eq]; decide
  have hz2 : x.cps.size ≤ 10000 := hz
  refine PySem.call_list_str (I.ok.hd hc) x t (fun h' tk acc c' kp e hi => ?_) (by omega)
  have rv : Vals (signs x) acc.toList := by
    have : ∀ (l : List Nat) (m : List Value), m.length = l.length → (∀ (j : Nat) (v : Value), m[j]? = some v → ∃ c u, l[j]? = some c ∧ v = Value.str ⟨#[c]⟩ u) → Vals (l.map fun c => V.str ⟨#[c]⟩) m := by
      intro l
      induction l with
      | nil => intro m hm _; cases m with
        | nil => exact .nil
        | cons _ _ => cases hm
      | cons c l ih =>
        intro m hm hj
        cases m with
        | nil => cases hm
        | cons y m =>
          obtain ⟨c', u, e1, rfl⟩ := hj 0 y rfl
          cases e1
          exact .cons ⟨u, rfl⟩ (ih m (by simpa using hm) fun j v hv => hj (j + 1) v hv)
    refine this _ _ (by rw [Array.length_toList, Array.length_toList]; exact hi.1) fun j v hv => ?_
    rw [Array.getElem?_toList] at hv
    obtain ⟨c, u, e1, e2⟩ := hi.2 j v hv
    exact ⟨c, u, by rw [Array.getElem?_toList]; exact e1, e2⟩
  exact ⟨.ref s.heap.objs.size, _, I.laid (t' := tk) kp (Nat.le_refl _) (show ObjOk X.prog X.w _ h' _ (.lst (signs x)) from ⟨by unfold signs; rw [List.length_map, Array.length_toList]; omega, acc.toList, c', rv, e⟩), rfl, q _ (I.hok.fresh (Nat.le_refl _))⟩
abbrev rAddS : R2 := fun x y H Q => ∃ i j, x = .str i ∧ y = .str j ∧ i.length + j.length ≤ sizeLine ∧ Q (.str (i ++ j)) H
abbrev rLenS : List V → Hp → VK → Prop := fun xs H Q => ∃ z, xs = [V.str z] ∧ z.length ≤ sizeLine ∧ Q (V.int (z.length : Nat)) H
abbrev rJoinS (K : PySem.W.Frag) : V → List V → Hp → VK → Prop := fun x xs H Q => ∃ a p, ∃ ys : List Str, x = V.str a ∧ xs = [V.ref p] ∧ (SqL K H p (ys.map V.str) ∨ SqT K H p (ys.map V.str)) ∧ (ys.map (·.length)).sum + ys.length * a.length ≤ 16777216 ∧ Q (V.str (Txt.join a ys)) H
abbrev rLjust : V → List V → Hp → VK → Prop := fun x xs H Q => ∃ (a : Str) (n c : Nat), x = .str a ∧ xs = [.int (n : Nat), .str ⟨#[c]⟩] ∧ n ≤ 100000 ∧ Q (.str (padS a n c)) H
end Lc

namespace Lc
open PySem PySem.Spec PyProof.Rows L2

/-! ### an own error class without __init__, as the top leaves it -/
structure ExT (K : PySem.W.Frag) (mg : Str → Option Value) (x : Str) (C : Addr) (mro : List Value) : Prop where
  g : mg x = some (.ref C)
  mr : (PySem.W.clsIn K C).map (·.mro) = some mro
  ex : PySem.W.excIn K C [.type "ValueError", .type "Exception", .type "BaseException", .type "object"] "ValueError.__new__" = true
  kp : PySem.W.keepIn K (.ref C) = true
  ty : PySem.W.typeIn K (.ref C) = some (.type "type")
  cc : ExcC K C
theorem cls_mr {K : PySem.W.Frag} {C : Addr} {c : Value} {d : Option Addr} {cd : ClassData} {sl : Array (Option Value)} {m : List Value} (l : K.lookup C = some ⟨c, d, .cls cd, sl⟩) (h : cd.mro = m) : (PySem.W.clsIn K C).map (·.mro) = some m := by
  unfold PySem.W.clsIn
  rw [l, ← h]; rfl
section
variable {K : PySem.W.Frag} {mg : Str → Option Value} {x y : Str} {C D : Addr} {m n : List Value}
theorem ExT.sub (T : ExT K mg x C m) (b : Value) (hm : m.isEmpty = false) : PySem.W.subIn K (.ref C) b = some (m.contains b) := by
  have e := T.mr
  show PySem.W.mroIn K C b = _
  unfold PySem.W.mroIn
  cases q : PySem.W.clsIn K C with
  | none => rw [q] at e; cases e
  | some cd =>
    rw [q] at e
    have e2 : cd.mro = m := Option.some.inj e
    show (if cd.mro.isEmpty = true then none else some (cd.mro.contains b)) = _
    rw [e2, hm]; rfl
theorem ExT.isSome (T : ExT K mg x C m) : (PySem.W.clsIn K C).isSome = true := by
  have e := T.mr
  cases q : PySem.W.clsIn K C with
  | none => rw [q] at e; cases e
  | some cd => rfl
theorem ExT.kitC (T : ExT K mg x C m) (S : ExT K mg y D n) (hm : m.isEmpty = false) (hc : m.contains (.ref C) = true) : PySem.W.kitOne K (.ref C) (.ref D) = some (m.contains (.ref D)) := by
  unfold PySem.W.kitOne
  by_cases h : (Value.ref C == Value.ref D) = true
  · rw [if_pos h]
    have : (Value.ref C) = Value.ref D := beq_iff_eq.mp h
    rw [← this, hc]
  · rw [if_neg h]
    show (if ((PySem.W.clsIn K D).isSome && PySem.W.typeIn K (.ref D) == some (.type "type")) = true then _ else _) = _
    rw [S.isSome, S.ty, if_pos (by rfl)]
    exact T.sub _ hm
theorem ExT.exm (T : ExT K mg x C m) (S : ExT K mg y D n) (hm : m.isEmpty = false) : PySem.W.exmOne K (.ref C) (.ref D) = some (m.contains (.ref D)) := by
  unfold PySem.W.exmOne
  rw [S.cc.hs, if_pos (by rfl)]
  show (if ((PySem.W.clsIn K D).isSome && PySem.W.typeIn K (.ref D) == some (.type "type")) = true then _ else _) = _
  rw [S.isSome, S.ty, if_pos (by rfl)]
  exact T.sub _ hm
theorem ExT.kitT (T : ExT K mg x C m) (b : String) (hk : PySem.W.kitMeta b = true) (hm : m.isEmpty = false) : PySem.W.kitOne K (.ref C) (.type b) = some (m.contains (.type b)) := by
  unfold PySem.W.kitOne
  rw [if_neg (by intro h; have := beq_iff_eq.mp h; cases this)]
  show (if PySem.W.kitMeta b = true then _ else _) = _
  rw [if_pos hk]
  exact T.sub _ hm
end

/-! ### statements that raise nothing amid a def that raises -/
theorem ps_nox {X : Cx} {st : Stmt} {t : TS} (h : PS X.nox st t) : PS X st t := ⟨fun pins s σ H D I hw =>
  wpAny_mono (h.run pins s σ H D (I.wish _) hw) (fun _ _ q => q.unwish) fun _ _ z => False.elim z⟩

/-! ### a def that is handed the error which its caller's suite has caught -/
structure FnE (P : Program) (w : World) (K : PySem.W.Frag) (mg : Str → Option Value) (base : Heap) (k : Nat) (f : Addr) (fd : FuncData) (x : Str) (D : Addr) (sp : Hp → VK → Prop) : Prop where
  go : ∀ (A : Around) (outer : List Env) (s : Shared) (H : Hp) (a : Addr) (oe : Obj) (Q : VK), Room k A → Env0 P w K mg base A outer s H →
    s.heap.get? a = some oe → Zc (.ref D) none oe → (∃ vs, oe.data = .fields vs) → H a = none → a ∉ frs outer → BindsTo s fd ⟨[.ref a], []⟩ [(x, .ref a)] → sp H Q →
    codeAny (model P w) (A.mark (some (.ref a))) (.call (.ref f) ⟨[.ref a], []⟩) (CR CX0 outer P w H s Q E0) s
section
variable {P : Program} {w : World} {K : PySem.W.Frag} {mg : Str → Option Value} {base : Heap}
theorem funE {x qual p : Str} {st : Stmt} {f D : Addr} {fd : FuncData} {N : List Str} {k : Nat} {sp : Hp → VK → Prop} (F : Fun K x qual st f fd) (S : FnScope N [p] (defScope st))
    (hbody : ∀ (cdv : Value) (A : Around) (outer : List Env) (s : Shared) (H : Hp) (a : Addr) (oe : Obj) (Q : VK), Zc (.ref D) none oe → (∃ vs, oe.data = .fields vs) →
      Room k (A.deeper (envOfC qual (defScope st) s.heap.objs.size f cdv)) → sp H Q →
      ∃ t, PSs ((cxOf CX0 P w K mg base N qual (defScope st) f cdv A outer s H E0).suite a [(a, oe)]) (defBody st) t ∧ t { nx := fun _ H' => Q .non H', rt := Q } (start N [.ref a]) H) :
    FnE P w K mg base (k + 1) f fd p D sp := by
  obtain ⟨oc, od, kV, doc, pm, an, cdv, ct, osl, rfl, lk, hcd⟩ := F.ex
  refine ⟨fun A outer s H a oe Q hr e0 ha hz hf na nf hb hsp => ?_⟩
  have up : ∀ b o, base.get? b = some o → s.heap.get? b = some o := fun b o e => (e0.bs b o e).1
  have KX : K.In s.heap := e0.mod.kin.keeps up
  have lim : s.heap.NoLimit := e0.mod.nolimit.keeps up
  have dd : (A.mark (some (.ref a))).depth < recursionLimit := hr.depth
  refine codeAny_call_function dd (KX _ _ lk) rfl S.co S.gen rfl
    (PySem.W.codeRec_of KX hcd) (hb _ _ _ _ ?_)
  refine wpAny_newFunctionEnv_cells S.kind (fun y hy => ?_) fun env he s1 x => ?_
  · have hm : y = (p, .ref a) := List.mem_singleton.mp hy
    rw [hm]
    cases S.par p List.mem_cons_self with
    | inl q => exact .inl q
    | inr q => exact .inr ⟨q, PySem.W.cellsFrom_some _ _ _ (.inl q)⟩
  subst he
  refine ⟨lim.keeps x.toInCall.keep, codeAny_func ?_⟩
  obtain ⟨t, ht, hq⟩ := hbody cdv A outer s H a oe Q hz hf (hr.deeper _) hsp
  have I0 := inv_start (CX := CX0) (P := P) (w := w) (qual := qual) (E := E0) (us := [.ref a]) (vs := [.ref a]) S hr.hd e0 rfl (.cons rfl .nil) x
  obtain ⟨vs, hv⟩ := hf
  have I := I0.suite (x.toInCall.keep a oe ha) hv na (Nat.ne_of_lt (Heap.lt_size ha)) nf
  refine wpAny_mono (ht.run [] s1 (start N [.ref a]) H _ I hq) (fun fl s' hs => ?_) (fun e s' hs => hs.elim)
  cases fl with
  | ret u => obtain ⟨v, σ', H', J, rv, q⟩ := hs; exact ⟨v, H', J.os, J.bare, J.base, J.hok, rv, q⟩
  | next => obtain ⟨σ', H', J, q⟩ := hs; exact ⟨V.non, H', J.os, J.bare, J.base, J.hok, rfl, q⟩
  | brk => obtain ⟨_, _, _, q⟩ := hs; exact q.elim
  | cont => obtain ⟨_, _, _, q⟩ := hs; exact q.elim
end
section
variable {X : Cx} {k : Nat} {f a : Addr} {fd : FuncData} {p x : Str} {oe : Obj} {pn : List (Addr × Obj)} {cls : Value} {d : Option Addr} {e : Expr} {te : TE} {ps pos : Pos} {G : Addr → Prop} {sp : Addr → Hp → VK → Prop}
/-- f(e) in the suite, e the caught error -/
def tCallE (cls : Value) (d : Option Addr) (a : Addr) (G : Addr → Prop) (sp : Addr → Hp → VK → Prop) (te : TE) : TE := fun σ H Q => te σ H fun z H1 => ∃ v, [z] = [v] ∧ v = .ref a ∧ ∃ D, cls = .ref D ∧ d = none ∧ G D ∧ sp D H1 Q
theorem pe_callE (F : ∀ D, G D → FnE X.prog X.w X.K X.mg X.base k f fd p D (sp D)) (hr : Room k X.A) (hg : Gl X x) (hm : X.mg x = some (.ref f)) (hk : PySem.W.keepIn X.K (.ref f) = true) (hb : Binds X.K fd [p] [])
    (hs : X.stack = X.env :: X.outer) (hfr : X.env.frame = some X.env.locals) (hz : Zc cls d oe) (hf : ∃ vs, oe.data = .fields vs) (he : PE (X.suite a ((a, oe) :: pn)) e te)
    (hdb : (x == ("__debug__" : Str)) = false := by decide) (he2 : starEach (e :: []) X.env = (false, eval e X.env) :: starEach [] X.env := by rfl) (hpl : (backTo pos (starEach [] X.env)).any (·.1) = false := by rfl) :
    PE (X.suite a ((a, oe) :: pn)) (.Call (.Name x ps) [e] [] pos) (tCallE cls d a G sp te) := by
  refine ⟨fun pins s σ H Q I h => wpAny_Call_Name_kw (ld_glob (X := X.suite a ((a, oe) :: pn)) I hg hm ?_ hdb)⟩
  have ha : PA (X.suite a ((a, oe) :: pn)) [e] (tCons te tNil) := pa_cons he pa_nil he2
  refine PySem.W.callWith_K (h₀ := X.base) I.ok.mod.kin hk (thn (ha.run pos pins s σ H (fun vs H1 => ∃ v, vs = [v] ∧ v = .ref a ∧ ∃ D, cls = .ref D ∧ d = none ∧ G D ∧ sp D H1 Q) I ?_) fun us s1 ⟨vs, H1, I1, r, q⟩ => ⟨I1.kIn, ?_⟩) he2 hpl
  · exact h
  · obtain ⟨v, rfl, rfl, D, rfl, rfl, hG, q⟩ := q
    obtain ⟨u, rfl, ru⟩ := vals1 r
    obtain rfl : u = Value.ref a := ru
    obtain ⟨hget, hn, hnl, hnf, _⟩ := I1.pin (a, oe) (List.mem_append.mpr (.inl List.mem_cons_self))
    have b := hb s1 [.ref a] I1.kIn rfl
    have e0 : Env0 X.prog X.w X.K X.mg X.base X.A X.stack s1 H1 := by
      have z := I1.env0
      exact ⟨z.frames, z.mod, z.bs, z.bsz, z.funs, z.frf, z.hok, z.bare⟩
    have nst : a ∉ frs X.stack := fun hm => by
      rw [hs] at hm
      obtain ⟨en, he3, q3⟩ := List.mem_filterMap.mp hm
      rcases List.mem_cons.mp he3 with z | z
      · rw [z, hfr] at q3
        exact hnl (Option.some.inj q3).symm
      · exact hnf (List.mem_filterMap.mpr ⟨en, z, q3⟩)
    refine wpAny_call (codeAny_mono ((F D hG).go X.A X.stack s1 H1 a oe Q hr e0 hget hz hf hn nst b q) fun r s' hq => ?_)
    cases r with
    | error e => exact hq.elim
    | ok fl => cases fl with
      | ret u => exact I1.after hq
      | next => exact hq.elim
      | brk => exact hq.elim
      | cont => exact hq.elim
end
/-- what a callee may let out leaves a def that lets it out -/
theorem passX {X : Cx} {E : XK} (tk : Takes X (fun cls d _ H => E cls d H)) : Passes (L2.CX X.prog X.w) X E := passes_call tk fun _ _ _ _ h => h
/-! ### isinstance of an error object that is not raised -/
def rIsO (K : PySem.W.Frag) : List V → Hp → VK → Prop := fun xs H Q => ∃ (a D : Addr) (c : V) (cv : Value) (b : Bool), xs = [.ref a, c] ∧ H a = some (ExO (.ref D) a) ∧ ExcC K D ∧ (∀ u, RelV c u → u = cv) ∧ PySem.W.kitOne K (.ref D) cv = some b ∧ Q (.bl b) H
theorem call_isO {X : Cx} : CallR X (.builtin "isinstance") (rIsO X.K) := by
  intro pins s σ H xs us Q I r h
  obtain ⟨a, D, c, cv, b, rfl, eH, C, hcv, e, q⟩ := h
  cases r with
  | cons rx rr =>
    cases rr with
    | cons rt rr =>
      cases rr
      cases rx
      have ec := hcv _ rt
      subst ec
      obtain ⟨⟨oe, vs, hget, hz, hv, _⟩, _, _⟩ := I.hok a _ eH
      have J : PySem.W.InstAt s.heap a oe D none := by
        obtain ⟨oc, od, oda, osl⟩ := oe
        obtain ⟨h1, h2⟩ := hz
        dsimp only at h1 h2 hv
        subst h1 h2 hv
        exact ⟨hget, rfl, rfl, trivial⟩
      exact PySem.W.kia_one (PySem.W.handS_kitx_exc C.hg C.hk C.hs C.hd C.ha C.hn C.ht C.hm) I.kIn J e (fun z => nomatch z) fun tk => ⟨.bl b, H, I.kept (t' := tk) fun _ _ z => z, rfl, q⟩
/-! ### fifteen classes over one -/
abbrev veT : List Value := [.type "ValueError", .type "Exception", .type "BaseException", .type "object"]
/-- the classes cs, all of them directly under B -/
structure ExTs (K : PySem.W.Frag) (mg : Str → Option Value) (cs : List Addr) (B : Addr) : Prop where
  nd : (cs ++ [B]).Nodup
  one : ∀ D ∈ cs, ∃ x, ExT K mg x D (.ref D :: .ref B :: veT)
  bas : ∃ x, ExT K mg x B (.ref B :: veT)
section
variable {K : PySem.W.Frag} {mg : Str → Option Value} {cs : List Addr} {B : Addr}
theorem ve_no (C : Addr) : veT.contains (.ref C) = false := by
  simp only [List.contains_cons, List.contains_nil, Bool.or_false]
  rfl
theorem val_beq (C D : Addr) : (Value.ref C == Value.ref D) = decide (C = D) := by
  by_cases h : C = D
  · rw [h, decide_eq_true rfl]; exact beq_self_eq_true _
  · rw [decide_eq_false h]; exact beq_eq_false_iff_ne.mpr fun z => h (Value.ref.inj z)
theorem ExTs.cc (T : ExTs K mg cs B) {j : Nat} (hj : j ≤ cs.length) : ExcC K ((cs ++ [B]).getD j 0) := by
  rcases Nat.lt_or_ge j cs.length with h | h
  · have e : (cs ++ [B]).getD j 0 = cs[j] := by rw [List.getD_eq_getElem?_getD, List.getElem?_append_left h, List.getElem?_eq_getElem h]; rfl
    obtain ⟨x, t⟩ := T.one _ (List.getElem_mem h)
    rw [e]; exact t.cc
  · have e : (cs ++ [B]).getD j 0 = B := by
      have : j = cs.length := by omega
      subst this
      rw [List.getD_eq_getElem?_getD, List.getElem?_append_right (Nat.le_refl _), Nat.sub_self]; rfl
    obtain ⟨x, t⟩ := T.bas
    rw [e]; exact t.cc
theorem ExTs.ne (T : ExTs K mg cs B) {i j : Nat} (hi : i ≤ cs.length) (hj : j ≤ cs.length) : decide ((cs ++ [B]).getD j 0 = (cs ++ [B]).getD i 0) = decide (i = j) := by
  have li : i < (cs ++ [B]).length := by rw [List.length_append]; exact Nat.lt_succ_of_le hi
  have lj : j < (cs ++ [B]).length := by rw [List.length_append]; exact Nat.lt_succ_of_le hj
  have ei : (cs ++ [B]).getD i 0 = (cs ++ [B])[i] := by rw [List.getD_eq_getElem?_getD, List.getElem?_eq_getElem li]; rfl
  have ej : (cs ++ [B]).getD j 0 = (cs ++ [B])[j] := by rw [List.getD_eq_getElem?_getD, List.getElem?_eq_getElem lj]; rfl
  rw [ei, ej]
  by_cases h : i = j
  · subst h; rw [decide_eq_true rfl, decide_eq_true rfl]
  · rw [decide_eq_false h, decide_eq_false fun z => h ?_]
    rcases Nat.lt_trichotomy i j with q | q | q
    · exact absurd z.symm (List.pairwise_iff_getElem.mp T.nd i j li lj q)
    · exact q
    · exact absurd z (List.pairwise_iff_getElem.mp T.nd j i lj li q)
/-- isinstance(an error of the class j, the class i) -/
theorem ExTs.kit (T : ExTs K mg cs B) {i j : Nat} (hi : i < cs.length) (hj : j ≤ cs.length) : PySem.W.kitOne K (.ref ((cs ++ [B]).getD j 0)) (.ref ((cs ++ [B]).getD i 0)) = some (decide (i = j)) := by
  have gi : (cs ++ [B]).getD i 0 = cs[i] := by rw [List.getD_eq_getElem?_getD, List.getElem?_append_left hi, List.getElem?_eq_getElem hi]; rfl
  obtain ⟨y, s⟩ := T.one _ (List.getElem_mem hi)
  have gB : (cs ++ [B]).getD cs.length 0 = B := by rw [List.getD_eq_getElem?_getD, List.getElem?_append_right (Nat.le_refl _), Nat.sub_self]; rfl
  have nB : decide (cs[i] = B) = false := by
    have := T.ne (i := cs.length) (j := i) (Nat.le_refl _) (Nat.le_of_lt hi)
    rw [gi, gB] at this
    rw [this]
    exact decide_eq_false (by omega)
  have ne := T.ne (i := j) (j := i) hj (Nat.le_of_lt hi)
  rcases Nat.lt_or_ge j cs.length with h | h
  · have gj : (cs ++ [B]).getD j 0 = cs[j] := by rw [List.getD_eq_getElem?_getD, List.getElem?_append_left h, List.getElem?_eq_getElem h]; rfl
    obtain ⟨x, t⟩ := T.one _ (List.getElem_mem h)
    rw [gi, gj] at ne ⊢
    rw [t.kitC s rfl (by rw [List.contains_cons, val_beq, decide_eq_true rfl]; rfl), List.contains_cons, List.contains_cons, val_beq, val_beq, ve_no, nB, ne]
    simp [eq_comm]
  · have ej : j = cs.length := by omega
    obtain ⟨x, t⟩ := T.bas
    rw [gi, ej, gB, t.kitC s rfl (by rw [List.contains_cons, val_beq, decide_eq_true rfl]; rfl), List.contains_cons, val_beq, ve_no, nB]
    rw [decide_eq_false (show ¬ i = cs.length by omega)]; rfl
theorem ExTs.kitB (T : ExTs K mg cs B) {j : Nat} (hj : j ≤ cs.length) : PySem.W.kitOne K (.ref ((cs ++ [B]).getD j 0)) (.ref B) = some true := by
  obtain ⟨y, s⟩ := T.bas
  rcases Nat.lt_or_ge j cs.length with h | h
  · have gj : (cs ++ [B]).getD j 0 = cs[j] := by rw [List.getD_eq_getElem?_getD, List.getElem?_append_left h, List.getElem?_eq_getElem h]; rfl
    obtain ⟨x, t⟩ := T.one _ (List.getElem_mem h)
    rw [gj, t.kitC s rfl (by rw [List.contains_cons, val_beq, decide_eq_true rfl]; rfl), List.contains_cons, List.contains_cons, val_beq, val_beq, decide_eq_true (rfl : B = B)]
    simp
  · have ej : j = cs.length := by omega
    have gB : (cs ++ [B]).getD cs.length 0 = B := by rw [List.getD_eq_getElem?_getD, List.getElem?_append_right (Nat.le_refl _), Nat.sub_self]; rfl
    rw [ej, gB, s.kitC s rfl (by rw [List.contains_cons, val_beq, decide_eq_true rfl]; rfl), List.contains_cons, val_beq, decide_eq_true (rfl : B = B)]; rfl
theorem ExTs.kitV (T : ExTs K mg cs B) {j : Nat} (hj : j ≤ cs.length) : PySem.W.kitOne K (.ref ((cs ++ [B]).getD j 0)) (.type "ValueError") = some true := by
  rcases Nat.lt_or_ge j cs.length with h | h
  · have gj : (cs ++ [B]).getD j 0 = cs[j] := by rw [List.getD_eq_getElem?_getD, List.getElem?_append_left h, List.getElem?_eq_getElem h]; rfl
    obtain ⟨x, t⟩ := T.one _ (List.getElem_mem h)
    rw [gj, t.kitT "ValueError" (by decide +kernel) rfl]; rfl
  · have ej : j = cs.length := by omega
    obtain ⟨y, s⟩ := T.bas
    have gB : (cs ++ [B]).getD cs.length 0 = B := by rw [List.getD_eq_getElem?_getD, List.getElem?_append_right (Nat.le_refl _), Nat.sub_self]; rfl
    rw [ej, gB, s.kitT "ValueError" (by decide +kernel) rfl]; rfl
/-- except B: takes an error of the class j -/
theorem ExTs.exm (T : ExTs K mg cs B) {j : Nat} (hj : j < cs.length) : PySem.W.exmOne K (.ref ((cs ++ [B]).getD j 0)) (.ref B) = some true := by
  obtain ⟨y, s⟩ := T.bas
  have gj : (cs ++ [B]).getD j 0 = cs[j] := by rw [List.getD_eq_getElem?_getD, List.getElem?_append_left hj, List.getElem?_eq_getElem hj]; rfl
  obtain ⟨x, t⟩ := T.one _ (List.getElem_mem hj)
  rw [gj, t.exm s rfl, List.contains_cons, List.contains_cons, val_beq, val_beq, decide_eq_true (rfl : B = B)]
  simp
end
/-- xs[i], by values -/
theorem get_list {X : Cx} : PGet X (rIxL X.K) := by
  intro pins s σ H x y v u Q I rx ry h
  obtain ⟨p, xs, i, z, rfl, rfl, hq, he, q⟩ := h
  cases rx
  obtain ⟨t, rfl⟩ := ry
  obtain ⟨its, r, pl, hz⟩ := I.list hq
  obtain ⟨j, h1, h2, h3, h4, h5⟩ := atI_get he
  obtain ⟨w, ew, rw'⟩ := r.get h2
  have hl := r.length
  have hn := line63
  have fin : EP X pins σ Q w s := ⟨z, H, I, rw', q⟩
  by_cases h0 : 0 ≤ i
  · have hj : i.toNat = j := by
      rw [seqIndex_of h0 h5] at h1
      exact Option.some.inj h1
    exact wpAny_getItem_list pl.isList h0 (by omega) (by rw [hj]; simpa using ew) fin
  · have hj : (i + (its.toArray.size : Int)).toNat = j := by
      rw [seqIndex_neg (by omega) h4] at h1
      rw [List.size_toArray, ← hl]
      exact Option.some.inj h1
    exact wpAny_getItem_list_neg pl.isList (by omega) (by rw [List.size_toArray] <;> omega) (by omega) (by rw [hj]; simpa using ew) fin
/-! ### two promises of one def -/
theorem FnOk.both {P : Program} {w : World} {K : PySem.W.Frag} {mg : Str → Option Value} {base : Heap} {CX : CXT} {k : Nat} {f : Addr} {fd : FuncData} {ps : List Str} {sp1 sp2 : Sp} (F1 : FnOk P w K mg base CX k f fd ps sp1) (F2 : FnOk P w K mg base CX k f fd ps sp2) :
    FnOk P w K mg base CX k f fd ps (fun vs H Q E => sp1 vs H Q E ∨ sp2 vs H Q E) :=
  ⟨fun vs H Q E h => h.elim (F1.len vs H Q E) (F2.len vs H Q E), fun A o s H a us vs Q E hr e0 hb r h => h.elim (F1.run A o s H a us vs Q E hr e0 hb r) (F2.run A o s H a us vs Q E hr e0 hb r)⟩
/-- a def's promise where it raises nothing -/
theorem FnOk.ofX0 {P : Program} {w : World} {K : PySem.W.Frag} {mg : Str → Option Value} {base : Heap} {CX : CXT} {k : Nat} {f : Addr} {fd : FuncData} {ps : List Str} {sp : Sp} (F : FnOk P w K mg base CX0 k f fd ps sp) :
    FnOk P w K mg base CX k f fd ps sp :=
  ⟨F.len, fun A o s H a us vs Q E hr e0 hb r h => codeAny_mono (F.run A o s H a us vs Q E hr e0 hb r h) fun r' s' hq => by
    cases r' with
    | error e => exact hq.elim
    | ok fl => cases fl <;> exact hq⟩
end Lc

namespace L2
open PySem PySem.Spec PyProof.Rows
/-! ### a def that closes over __class__ -/
/-- the context of its body -/
def cxS (CX : CXT) (P : Program) (w : World) (K : PySem.W.Frag) (mg : Str → Option Value) (base : Heap) (N : List Str) (qual : Str) (scope : Scope) (f : Addr) (cd : Value) (cc : Addr) (A : Around) (outer : List Env) (s : Shared) (H : Hp) (E : XK) : Cx where
  prog := P
  w := w
  K := K
  mg := mg
  base := base
  A := A.deeper (PySem.W.ksEnv qual scope s.heap.objs.size f cd cc)
  N := N
  s_0 := s
  H_0 := H
  env := PySem.W.ksEnv qual scope s.heap.objs.size f cd cc
  outer := outer
  stack := PySem.W.ksEnv qual scope s.heap.objs.size f cd cc :: outer
  ex := []
  calm := true
  fn := fun _ => false
  pn := []
  xe := fun e s' => wpAny (model P w) (A.deeper (PySem.W.ksEnv qual scope s.heap.objs.size f cd cc)) (leaving (PySem.W.ksEnv qual scope s.heap.objs.size f cd cc) e) (fun _ s'' => CX outer H s E e s'') (fun e' s'' => CX outer H s E e' s'') s'
structure SuScope (N ps : List Str) (sc : Scope) : Prop where
  kind : sc.kind = .function
  co : sc.isCoroutine = false
  gen : sc.isGenerator = false
  nd : N.Nodup
  pre : N.take ps.length = ps
  par : ∀ x ∈ ps, sc.names.lookup x = some .local
  nocell : ∀ y ∈ sc.names, y.2 ≠ .cell
  free : ∀ y ∈ sc.names, y.2 = .free → y.1 = ("__class__" : Str)
theorem cell1 {x : Str} {c cc : Addr} (h : ([(("__class__" : Str), cc)] : List (Str × Addr)).lookup x = some c) : x = ("__class__" : Str) ∧ c = cc := by
  rw [List.lookup_cons] at h
  cases e : x == ("__class__" : Str) with
  | true => rw [e] at h; exact ⟨eq_of_beq e, (Option.some.inj h).symm⟩
  | false => rw [e] at h; cases h
section
variable {CX : CXT} {P : Program} {w : World} {K : PySem.W.Frag} {mg : Str → Option Value} {base : Heap} {N ps : List Str} {qual : Str} {scope : Scope} {f cc : Addr} {cd : Value} {A : Around} {outer : List Env} {s : Shared} {H : Hp} {E : XK} {us : List Value} {vs : List V}
theorem inv_startS {h₁ : Heap} {tk : Nat} {oc : Obj} {v0 : Option Value} (S : SuScope N ps scope) (hd : A.handled = none) (e0 : Env0 P w K mg base A outer s H) (hl : vs.length = ps.length) (r : Vals vs us) (hc : base.get? cc = some oc) (hcd : oc.data = .cell v0)
    (hns : h₁.Ns s.heap.objs.size fun y => (ps.zip us).reverse.lookup y) (kp : ∀ b o, s.heap.get? b = some o → h₁.get? b = some o) :
    Inv (cxS CX P w K mg base N qual scope f cd cc A outer s H E) [] (start N vs) H { s with heap := h₁, toks := tk } := by
  have hpl : ps.length ≤ N.length := by have := congrArg List.length S.pre; rw [List.length_take] at this; omega
  have noA : ∀ b : Addr, b ∉ (cxS CX P w K mg base N qual scope f cd cc A outer s H E).ex := fun b z => absurd (show b ∈ ([] : List Addr) from z) (by simp)
  refine ⟨⟨e0.mod, S.kind, rfl, rfl, Nat.le_refl _, fun x y c h1 h2 => ?_, fun y hy => ?_, fun y c z _ => ?_, fun _ => hd, Around.frames_deeper e0.frames, .inr ⟨rfl, rfl⟩, fun b z => absurd z (noA b), e0.bs, e0.bsz, fun b _ _ => noA b,
      fun b z => absurd z (noA b), e0.funs, e0.frf⟩,
    rfl, e0.bare, Un.kept kp, ⟨_, hns, fun i y v e1 e2 e3 => ?_⟩, fun y c e => ?_, e0.hok.fresh (Nat.le_refl _), fun y c e => ?_, fun q hq => absurd (show q ∈ ([] : List (Addr × Obj)) ++ [] from hq) (by simp), e0.hok.kept kp, ?_⟩
  · rw [(cell1 h1).1, (cell1 h2).1]
  · have hy : scope.names.lookup y = some .cell ∨ scope.names.lookup y = some .free := hy
    rcases hy with hy | hy
    · exact absurd rfl (S.nocell _ (PySem.mem_of_lookup hy))
    · have e := S.free _ (PySem.mem_of_lookup hy) rfl
      have e : y = ("__class__" : Str) := e
      exact ⟨cc, by rw [e]; rfl⟩
  · have z : false = true := z
    cases z
  · have e1 : N[i]? = some y := e1
    unfold start at e2
    have h1 : i < vs.length := by
      by_cases hi : i < vs.length
      · exact hi
      · rw [List.getElem?_append_right (by simpa using hi)] at e2
        rw [List.getElem?_replicate] at e2
        split at e2 <;> cases e2
    have ha : vs[i]? = some v := by
      rw [List.getElem?_append_left (by simpa using h1), List.getElem?_map] at e2
      cases e : vs[i]? with
      | none => rw [e] at e2; cases e2
      | some a => rw [e] at e2; cases e2; rfl
    have hq : ps[i]? = some y := by rw [← S.pre, List.getElem?_take_of_lt (by omega)]; exact e1
    obtain ⟨u, hu, rv⟩ := r.get ha
    have ndP : ps.Nodup := by rw [← S.pre]; exact S.nd.sublist (List.take_sublist _ _)
    exact ⟨u, rv, .inl ⟨S.par y (List.mem_of_getElem? hq), NdefX.zip_look ndP hq hu⟩⟩
  · obtain ⟨_, e⟩ := cell1 e
    subst e
    exact ⟨v0, oc, kp _ _ (e0.bs _ _ hc).1, hcd⟩
  · obtain ⟨_, e⟩ := cell1 e
    subst e
    exact (e0.bs _ _ hc).2
  · unfold start
    show _ = N.length
    rw [List.length_append, List.length_map, List.length_replicate]
    omega
end
/-! ### statements that are the first of a known def -/
structure PEAt (X : Cx) (b0 : List Stmt) (e : Expr) (t : TE) : Prop where
  run : ∀ (pins : List (Addr × Obj)) (s : Shared) (σ : St) (H : Hp) (Q : VK), Inv X pins σ H s → t σ H Q → _root_.PySem.wpAt (model X.prog X.w) X.A (.func b0 X.env) (eval e X.env) (EP X pins σ Q) X.xe s
structure PSAt (X : Cx) (b0 : List Stmt) (st : Stmt) (t : TS) : Prop where
  run : ∀ (pins : List (Addr × Obj)) (s : Shared) (σ : St) (H : Hp) (D : Ends), Inv X pins σ H s → t D σ H → _root_.PySem.wpAt (model X.prog X.w) X.A (.func b0 X.env) (exec st X.env) (SP X pins D) X.xe s
structure PSAts (X : Cx) (b0 : List Stmt) (st : List Stmt) (t : TS) : Prop where
  run : ∀ (pins : List (Addr × Obj)) (s : Shared) (σ : St) (H : Hp) (D : Ends), Inv X pins σ H s → t D σ H → _root_.PySem.wpAt (model X.prog X.w) X.A (.func b0 X.env) (execs st X.env) (SP X pins D) X.xe s
section
variable {X : Cx} {b0 : List Stmt} {st : Stmt} {rest : List Stmt} {t u : TS} {e : Expr} {te : TE} {pos : Pos}
theorem psats_of (h : PSs X rest t) : PSAts X b0 rest t := ⟨fun pins s σ H D I q => _root_.PySem.wpAt_of_wpAny (h.run pins s σ H D I q)⟩
theorem psat_of (h : PS X st t) : PSAt X b0 st t := ⟨fun pins s σ H D I q => _root_.PySem.wpAt_of_wpAny (h.run pins s σ H D I q)⟩
theorem psats_cons (h1 : PSAt X b0 st t) (h2 : PSAts X b0 rest u) : PSAts X b0 (st :: rest) (tSeq t u) := by
  refine ⟨fun pins s σ H D I h => _root_.PySem.ks_wpAt_execs_cons (_root_.PySem.ks_wpAt_mono (h1.run pins s σ H { D with nx := u D } I h) (fun f s1 q => ?_) fun _ _ z => z)⟩
  cases f with
  | next =>
    obtain ⟨σ', H', I', q⟩ := q
    exact h2.run pins s1 σ' H' D I' q
  | brk => exact q
  | cont => exact q
  | ret v => exact q
theorem psat_expr (he : PEAt X b0 e te) (hs : swapsWith e none pos.line X.env = pure false := by rfl) : PSAt X b0 (.Expr e pos) (tDrop te) := by
  refine ⟨fun pins s σ H D I h => ?_⟩
  exact _root_.PySem.ks_wpAt_Expr_any (_root_.PySem.ks_wpAt_mono (he.run pins s σ H _ I h) (fun v s1 ⟨x, H1, I1, r1, q1⟩ => ⟨σ, H1, I1, q1⟩) fun _ _ z => z) I.quiet hs
theorem psat_ret (he : PEAt X b0 e te) : PSAt X b0 (.Return (some e) pos) (tRet te) := by
  refine ⟨fun pins s σ H D I h => ?_⟩
  exact _root_.PySem.ks_wpAt_Return_some (_root_.PySem.ks_wpAt_mono (he.run pins s σ H _ I h) (fun v s1 ⟨x, H1, I1, r1, q1⟩ => ⟨x, σ, H1, I1, r1, q1⟩) fun _ _ z => z)
end
/-- what of the text super() needs in the def at f of the class D, its code record cda, its cell cc, its first parameter ar0 -/
structure SupOk (P : Program) (K : PySem.W.Frag) (f cda cc D : Addr) (ar0 : Str) : Prop where
  fd : ∃ oc od fd osl ar, K.lookup f = some ⟨oc, od, .func fd, osl⟩ ∧ (fd.params.posonlyargs ++ fd.params.args).head? = some ar ∧ ar.arg = ar0
  code : ∃ ccl cdd vs ccs file tf, K.lookup cda = some ⟨ccl, cdd, .fields vs, ccs⟩ ∧ vs[2]? = some (.str file tf) ∧ ((P.main.file : Str) == file) = true
  cell : ∃ cl cld csl, K.lookup cc = some ⟨cl, cld, .cell (some (.ref D)), csl⟩
  cls : (PySem.W.clsIn K D).isSome = true
  top : (P.main.scope.names.lookup ("super" : Str)).isSome = false
/-- for an instance of C, super() of D hands out m of the def at f2 -/
structure SupTo (K : PySem.W.Frag) (C D f2 : Addr) (m : Str) : Prop where
  sub : PySem.W.mroIn K C (.ref D) = some true
  to : PySem.W.ks_superIn K C D m = some (some (.ref f2))
  fn : PySem.W.typeIn K (.ref f2) = some (.type "function")
  fi : PySem.W.fnIn K f2 = true
  tp : PySem.W.nsIn K cStatics "thirdparty.any" = some none
  ne : (m == ("__class__" : Str)) = false
/-- super().m(..): self is the name in slot i0 -/
def tSuper (C : Addr) (i0 : Nat) (sp : Sp) (E : XK) (t : TA) : TE := fun σ H Q => ∃ a dx fs, σ[i0]? = some (some (.ref a)) ∧ H a = some (.ins C dx fs) ∧ t σ H fun vs H2 => sp (.ref a :: vs) H2 Q E
theorem boot_super : bootBuiltins "super" = some (.type "super") := by first | rfl | kernel_rfl
section
variable {X : Cx} {CX : CXT} {b0 : List Stmt} {k i0 : Nat} {f cda cc D C f2 : Addr} {ar0 m : Str} {sp : Sp} {E : XK} {e : Expr} {es : List Expr} {t : TA} {p0 p1 apos pos : Pos} {pl : Sem Bool}
theorem pea_super (S : SupOk X.prog X.K f cda cc D ar0) (hfu : X.env.func = some f) (hco : X.env.code = .ref cda) (hcl : X.env.cells.lookup ("__class__" : Str) = some cc) (hks : X.env.kindOf "super" = some .globalImplicit)
    (hkc : X.env.kindOf "__class__" = some .free) (hka : X.env.kindOf ar0 = some .local) (hi : X.N[i0]? = some ar0) (hm : X.mg "super" = none) (T : SupTo X.K C D f2 m) (F : FnR X.prog X.w X.K X.mg X.base CX k f2 sp) (hr : Room k X.A) (hx : Passes CX X E)
    (ha : PA X (e :: es) t) (hst : starEach (e :: es) X.env = (false, eval e X.env) :: starEach es X.env := by rfl) (hpl : (backTo pos (starEach es X.env)).any (·.1) = false := by rfl)
    (ht : eval (.Call (.Attribute (.Call (.Name "super" p0) [] [] p1) m apos) (e :: es) [] pos) X.env = (do
      let ov ← attributeBase (.Call (.Name "super" p0) [] [] p1) m X.env (eval (.Call (.Name "super" p0) [] [] p1) X.env)
      standAt apos.atName
      let (f, first) ← holding [ov] (getMethod ov m pl)
      callWith pos f first (backTo pos (starEach (e :: es) X.env)) []) := by rfl) :
    PEAt X b0 (.Call (.Attribute (.Call (.Name "super" p0) [] [] p1) m apos) (e :: es) [] pos) (tSuper C i0 sp E t) := by
  refine ⟨fun pins s σ H Q I h => ?_⟩
  obtain ⟨a, dx, fs, hσ, ea, q⟩ := h
  obtain ⟨oc, od, fd, osl, ar, lk, har, ear⟩ := S.fd
  obtain ⟨ccl, cdd, vs, ccs, file, tf, lkc, hvs, hfile⟩ := S.code
  obtain ⟨cl, cld, csl, lkcc⟩ := S.cell
  obtain ⟨cdD, hD⟩ := Option.isSome_iff_exists.mp S.cls
  have KX : X.K.In s.heap := I.kIn
  obtain ⟨mA, O, _⟩ := ins_get I.hok ea
  obtain ⟨odx, J, _⟩ := O.look
  obtain ⟨oD, hD1, hD2⟩ : ∃ oD, s.heap.get? D = some oD ∧ oD.data = .cls cdD := by
    unfold PySem.W.clsIn at hD
    split at hD
    · rename_i c d cd' sl ho
      cases hD
      exact ⟨_, KX _ _ ho, rfl⟩
    · cases hD
  obtain ⟨mm, hns, hlk⟩ := I.loc
  obtain ⟨u, ru, hlook⟩ := hlk i0 ar0 (.ref a) hi hσ (.inl hka)
  obtain rfl : u = Value.ref a := ru
  have hmm : mm ar0 = some (.ref a) := by
    rcases hlook with ⟨_, z⟩ | ⟨z, _⟩
    · exact z
    · rw [hka] at z; rcases z with z | z <;> cases z
  obtain ⟨mb, b1, b2⟩ := I.mod.blt
  refine _root_.PySem.ks_wpAt_MethodCall (pl := pl) ?_ ht
  refine _root_.PySem.ks_wpAt_super_base hks hkc T.ne hfu (KX _ _ lk) rfl har hco (KX _ _ lkc) rfl hvs hfile S.top ?_
  refine PySem.W.ks_loadName_global I.ok.kind hks (Calls.loadGlobal_builtin (by rw [I.ok.glob]; exact I.mod.glob.keeps I.bk) hm (by rw [I.ok.blt]; exact b1.keeps I.bk) ((b2 "super" (by decide)).trans boot_super) ⟨rfl, ?_⟩)
  refine wpAny_loadName_free I.ok.kind hkc hcl ⟨_, KX _ _ lkcc, rfl⟩ ?_
  rw [ear]
  refine wpAny_loadName_local I.ok.kind hka hns hmm ?_
  obtain ⟨hh, g, d, tt, os⟩ := s
  refine _root_.PySem.ks_wpAny_isType_cls hD1 hD2 ⟨rfl, ?_⟩
  refine _root_.PySem.ks_wpAny_call_super hD1 hD2 J.at_ J.cls (fun c e => ?_) (PySem.W.looks_mroIn KX T.sub) (fun h' e1 k1 => ?_)
  · have := J.no
    unfold PySem.W.notCls at this
    rw [e] at this
    exact Bool.noConfusion this
  have I1 := ClX.pin_new (t' := tt) I (h' := h') k1 (Nat.le_refl _) e1 (fun v z => nomatch z)
  have KX1 : X.K.In h' := I1.kIn
  obtain ⟨cdC, hC⟩ : ∃ cdC, PySem.W.clsIn X.K C = some cdC := by
    have q := T.to
    unfold PySem.W.ks_superIn at q
    cases z : PySem.W.clsIn X.K C with
    | none => rw [z] at q; cases q
    | some c => exact ⟨c, rfl⟩
  have hto := T.to
  unfold PySem.W.ks_superIn at hto
  rw [hC] at hto
  obtain ⟨of, hof, hofc⟩ : ∃ of, h'.get? f2 = some of ∧ of.cls = .type "function" := by
    have ht' : (X.K.lookup f2).map (·.cls) = some (.type "function") := T.fn
    cases z : X.K.lookup f2 with
    | none => rw [z] at ht'; cases ht'
    | some of => rw [z] at ht'; exact ⟨of, KX1 _ _ z, Option.some.inj ht'⟩
  refine _root_.PySem.ks_wpAny_getMethod_super e1 (PySem.W.looks_opaque KX1 T.tp) (l₀ := cdC.mro) ?_ rfl KX1 hto hof hofc (PySem.W.ks_ne KX J hC) T.ne ?_
  · exact fun A Q E s k q => wpAny_bind ((PySem.W.looks_clsIn KX1 hC) A _ E s k (wpAny_pure q))
  have I2 := ClX.pin_new (t' := tt + 1) I1 (h' := h'.push (PySem.W.methodObj (.ref f2) (.ref a))) (fun _ _ z => Heap.get?_push_of_some _ z) (Nat.le_refl _) (Heap.get?_push_size h' rfl) (fun v z => nomatch z)
  refine ClX.callwith_cm I2 (ClX.base_none I1 (Nat.le_refl _)) T.fi (thn (ha.run pos _ _ σ H _ I2 q) fun us s3 ⟨vs, H2, I3, rv, q2⟩ => ⟨⟨ClX.pin_at I3, I3.kIn⟩, ?_⟩) hst hpl
  exact thn (ClX.run_cm F hr hx I3 rv q2) fun _ _ y => ClX.unpinE y
end
/-- a def that closes over __class__, by its body -/
theorem fn_ofS {CX : CXT} {P : Program} {w : World} {K : PySem.W.Frag} {mg : Str → Option Value} {base : Heap} {k : Nat} {f cc : Addr} {name qual : Str} {params : Arguments} {body : List Stmt} {scope : Scope} {dV kV doc pm cdv ct oc cl : Value} {an od cld : Option Addr}
    {osl csl : Array (Option Value)} {v0 : Option Value} {N ps : List Str} {sp : Sp} (lk : K.lookup f = some ⟨oc, od, .func (PySem.W.ksFn name qual params body scope dV kV doc pm an cdv ct cc), osl⟩) (hcd : PySem.W.codeIn K cdv qual = true)
    (lkcc : K.lookup cc = some ⟨cl, cld, .cell v0, csl⟩) (S : SuScope N ps scope) (len : ∀ vs H Q E, sp vs H Q E → vs.length = ps.length)
    (hbody : ∀ (A : Around) (outer : List Env) (s : Shared) (H : Hp) (vs : List V) (Q : VK) (E : XK), Room k (A.deeper (PySem.W.ksEnv qual scope s.heap.objs.size f cdv cc)) → sp vs H Q E →
      ∃ t, PSAts (cxS CX P w K mg base N qual scope f cdv cc A outer s H E) body body t ∧ t { nx := fun _ H' => Q .non H', rt := Q } (start N vs) H) :
    FnOk P w K mg base CX (k + 1) f (PySem.W.ksFn name qual params body scope dV kV doc pm an cdv ct cc) ps sp := by
  refine ⟨len, fun A outer s H args us vs Q E hr e0 hb r hsp => ?_⟩
  have hl := len _ _ _ _ hsp
  have KX : K.In s.heap := e0.mod.kin.keeps fun b o e => (e0.bs b o e).1
  have lim : s.heap.NoLimit := e0.mod.nolimit.keeps fun b o e => (e0.bs b o e).1
  refine codeAny_call_function hr.depth (KX _ _ lk) rfl S.co S.gen rfl (PySem.W.codeRec_of KX hcd) (hb _ _ _ _ ?_)
  refine wpAny_newFunctionEnv S.nocell (fun ⟨n, _⟩ hy => S.par n (List.of_mem_zip hy).1) (fun h₁ hns hsb => ⟨lim.fresh _ hsb, ?_⟩) S.kind
  show codeAny _ _ (.func body (PySem.W.ksEnv qual scope s.heap.objs.size f cdv cc)) _ _
  refine _root_.PySem.ks_codeAny_funcAt ?_
  have kp : ∀ b o, s.heap.get? b = some o → h₁.get? b = some o := fun b o e => hsb.extBut b o (Nat.ne_of_lt (Heap.lt_size e)) (Heap.get?_push_of_some _ e)
  obtain ⟨t, ht, hq⟩ := hbody A outer s H vs Q E (hr.deeper _) hsp
  have I : Inv (cxS CX P w K mg base N qual scope f cdv cc A outer s H E) [] (start N vs) H { s with heap := h₁, toks := s.toks + (ps.zip us).length } := inv_startS S hr.hd e0 hl r (e0.mod.kin _ _ lkcc) rfl hns kp
  refine _root_.PySem.ks_wpAt_mono (ht.run [] _ (start N vs) H _ I hq) (fun fl s' hs => ?_) fun e s' hs => hs
  have fin : ∀ {σ' : St} {H' : Hp} {v : V} {u : Value}, Inv (cxS CX P w K mg base N qual scope f cdv cc A outer s H E) [] σ' H' s' → RelV v u → Q v H' → CE outer P w H s Q u s' :=
    fun {σ' H' v u} J rv q => ⟨v, H', J.os, J.bare, J.base, J.hok, rv, q⟩
  cases fl with
  | ret u =>
    obtain ⟨v, σ', H', J, rv, q⟩ := hs
    exact fin J rv q
  | next =>
    obtain ⟨σ', H', J, q⟩ := hs
    exact fin (v := V.non) (u := Value.none) J rfl q
  | brk =>
    obtain ⟨_, _, _, q⟩ := hs
    exact False.elim q
  | cont =>
    obtain ⟨_, _, _, q⟩ := hs
    exact False.elim q
end L2
namespace L2
open PySem PySem.Spec PyProof.Rows ClX
/-! ### static methods -/
/-- C.m is a static method: its record at p, its def at g -/
structure SMet (K : PySem.W.Frag) (C : Addr) (mc : Value) (m : Str) (p g : Addr) : Prop where
  at_ : PySem.W.findCls K (.ref C) mc m = some (.get (.builtin "staticmethod.__get__") (.ref p) .none (.ref C))
  rc : ∃ rest, PySem.W.recIn K p "staticmethod" = some (.ref g :: rest)
  kp : PySem.W.keepIn K (.ref g) = true
/-- .. reached through an instance of C -/
structure SInst (K : PySem.W.Frag) (C : Addr) (m : Str) (p g : Addr) : Prop where
  pg : PySem.W.plainGet K C Str.empty = true
  ic : PySem.W.isClsIn K C = true
  at_ : PySem.W.findIn K (.ref C) m = some (some (.ref p))
  ty : PySem.W.typeIn K (.ref p) = some (.type "staticmethod")
  get : PySem.W.specialIn K (.ref p) "__get__" = some (some (.builtin "staticmethod.__get__"))
  tk : PySem.W.takesIn K (.ref p) = some false
  cp : PySem.W.copiedNames.contains m = false
  rc : ∃ rest, PySem.W.recIn K p "staticmethod" = some (.ref g :: rest)
  kp : PySem.W.keepIn K (.ref g) = true
section
variable {X : Cx} {pins : List (Addr × Obj)} {σ : L2.St} {H : Hp} {s : Shared} {a C p g : Addr} {mc : Value} {m : Str} {A : Around} {E : Value → Shared → Prop} {pl : Sem Bool} {Q : Value × List Value → Shared → Prop}
theorem getmethsm_ok (I : Inv X pins σ H s) (r : CRead X.K C mc) (k : SMet X.K C mc m p g) (h : ∀ s', Inv X pins σ H s' → Q (.ref g, []) s') : wpAny (model X.prog X.w) A (getMethod (.ref C) m pl) Q E s := by
  obtain ⟨rest, hp⟩ := k.rc
  refine PySem.W.method_cls I.kIn r.ga (PySem.W.cls_bind I.kIn r.rd k.at_ ?_)
  exact wpAny_call (PySem.W.sm_get (s := { s with toks := s.toks + 1 }) I.kIn hp (PySem.W.handed_on rfl (h _ (I.tok _))))
theorem getmethsi_ok {ox od : Obj} (I : Inv X pins σ H s) (J : PySem.W.InstAt s.heap a ox C (some od)) (hl : PySem.W.lookIn m od = some none) (k : SInst X.K C m p g) (h : ∀ s', Inv X pins σ H s' → Q (.ref g, []) s') :
    wpAny (model X.prog X.w) A (getMethod (.ref a) m pl) Q E s := by
  obtain ⟨rest, hp⟩ := k.rc
  have pg : PySem.W.plainGet X.K C m = true := k.pg
  refine PySem.W.method_usual (r := some (.ref p)) I.kIn J (PySem.W.plainGet_of pg).1 (PySem.W.plainGet_of pg).2 k.at_ ?_ ?_
  · show ((PySem.W.typeIn X.K (.ref p)).any fun t => t != .type "function" && t != .type "method_descriptor" && t != .type "wrapper_descriptor") = true
    rw [k.ty]
    first
    | rfl
    | decide +kernel
  · refine PySem.W.get_bind I.kIn J (PySem.W.plainGet_of pg).1 (find_cm k.ic k.at_ k.get k.tk k.cp hl) (PySem.W.plainGet_of pg).2 ?_
    exact wpAny_call (PySem.W.sm_get (s := { s with toks := s.toks + 1 }) I.kIn hp (PySem.W.handed_on rfl (h _ (I.tok _))))
end
/-- C.m(..), m a static method of the class at C -/
def tSMeth (C : Addr) (sp : Sp) (dvs : List V) (E : XK) (ta : TE) (t : TA) : TE := fun σ H Q => ta σ H fun x H1 => x = .ref C ∧ t σ H1 fun vs H2 => sp (vs ++ dvs) H2 Q E
/-- C.m(k = ..) -/
def tSMethK (C : Addr) (sp : Sp) (gV : List V → List V → List V) (E : XK) (ta : TE) (t : TA) : TE := fun σ H Q => ta σ H fun x H1 => x = .ref C ∧ t σ H1 fun zs H2 => sp (gV [] zs) H2 Q E
/-- o.m(..), o an instance of C, m a static method -/
def tSInst (C : Addr) (m : Str) (sp : Sp) (dvs : List V) (E : XK) (ta : TE) (t : TA) : TE := fun σ H Q => ta σ H fun x H1 => ∃ a dx fs, x = .ref a ∧ H1 a = some (.ins C dx fs) ∧ fs.lookup m = none ∧ t σ H1 fun vs H2 => sp (vs ++ dvs) H2 Q E
section
variable {X : Cx} {CX : CXT} {k : Nat} {C p g : Addr} {fd : FuncData} {ps ks : List Str} {dvs : List V} {ds : List Value} {mc : Value} {sp : Sp} {E : XK} {o e : Expr} {es : List Expr} {kws : List Keyword} {m : Str} {pos apos : Pos} {ta : TE} {t : TA} {pl : Sem Bool}
theorem pe_smeth (he : PE X o ta) (r : CRead X.K C mc) (c : SMet X.K C mc m p g) (F : FnOk X.prog X.w X.K X.mg X.base CX k g fd ps sp) (hr : Room k X.A) (hb : Binds X.K fd ps ds) (hd : Vals dvs ds) (hx : Passes CX X E) (ha : PA X (e :: es) t)
    (hst : starEach (e :: es) X.env = (false, eval e X.env) :: starEach es X.env := by rfl) (hpl : (backTo pos (starEach es X.env)).any (·.1) = false := by rfl)
    (ht : eval (.Call (.Attribute o m apos) (e :: es) [] pos) X.env = (do
      let ov ← eval o X.env
      standAt apos.atName
      let (f, first) ← holding [ov] (getMethod ov m pl)
      callWith pos f first (backTo pos (starEach (e :: es) X.env)) (backToKw pos (keywordEach [] X.env))) := by rfl) :
    PE X (.Call (.Attribute o m apos) (e :: es) [] pos) (tSMeth C sp dvs E ta t) := by
  refine ⟨fun pins s σ H Q I h => ?_⟩
  refine PySem.W.methodCall_KW (pl := pl) (thn (he.run pins s σ H _ I h) fun u s1 ⟨x, H1, I1, rx, ex, q⟩ => ?_) ht
  subst ex
  obtain rfl : u = Value.ref C := rx
  refine getmethsm_ok I1 r c fun s2 I2 => ?_
  refine PySem.W.callWith_K (h₀ := X.base) I2.ok.mod.kin c.kp (thn (ha.run pos pins s2 σ H1 _ I2 q) fun us s3 ⟨vs, H2, I3, rv, q2⟩ => ⟨I3.kIn, ?_⟩) hst hpl
  exact run_fn F hr hb hd hx I3 rv q2
theorem pe_smethK {gg : List Value → List Value → List Value} {gV : List V → List V → List V} (he : PE X o ta) (r : CRead X.K C mc) (c : SMet X.K C mc m p g) (F : FnOk X.prog X.w X.K X.mg X.base CX k g fd ps sp) (hr : Room k X.A) (hb : KBinds X.K fd ps ks gg gV) (hx : Passes CX X E) (hkw : PK X kws t)
    (hall : (backToKw pos (keywordEach kws X.env)).all (·.1.isSome) = true := by rfl) (hks : (backToKw pos (keywordEach kws X.env)).filterMap (·.1) = ks := by rfl)
    (hpl : ((backTo pos (starEach [] X.env)).any (·.1) || (backToKw pos (keywordEach kws X.env)).any (·.1.isNone)) = false := by rfl)
    (ht : eval (.Call (.Attribute o m apos) [] kws pos) X.env = (do
      let ov ← eval o X.env
      standAt apos.atName
      let (f, first) ← holding [ov] (getMethod ov m pl)
      callWith pos f first (backTo pos (starEach [] X.env)) (backToKw pos (keywordEach kws X.env))) := by rfl) :
    PE X (.Call (.Attribute o m apos) [] kws pos) (tSMethK C sp gV E ta t) := by
  refine ⟨fun pins s σ H Q I h => ?_⟩
  refine PySem.W.methodCall_KW (pl := pl) (thn (he.run pins s σ H _ I h) fun u s1 ⟨x, H1, I1, rx, ex, q⟩ => ?_) ht
  subst ex
  obtain rfl : u = Value.ref C := rx
  refine getmethsm_ok I1 r c fun s2 I2 => ?_
  refine PySem.W.callWith_KW0 (first := []) (h₀ := X.base) I2.ok.mod.kin c.kp hall (thn (hkw.run pos pins s2 σ H1 _ I2 q) fun ws s3 ⟨zs, H2, I3, rz, q2⟩ => ⟨I3.kIn, ?_⟩) hpl
  rw [hks]
  exact run_fnk F hr hb hx I3 .nil rz q2
theorem pe_sinst (he : PE X o ta) (c : SInst X.K C m p g) (F : FnOk X.prog X.w X.K X.mg X.base CX k g fd ps sp) (hr : Room k X.A) (hb : Binds X.K fd ps ds) (hd : Vals dvs ds) (hx : Passes CX X E) (ha : PA X (e :: es) t)
    (hst : starEach (e :: es) X.env = (false, eval e X.env) :: starEach es X.env := by rfl) (hpl : (backTo pos (starEach es X.env)).any (·.1) = false := by rfl)
    (ht : eval (.Call (.Attribute o m apos) (e :: es) [] pos) X.env = (do
      let ov ← eval o X.env
      standAt apos.atName
      let (f, first) ← holding [ov] (getMethod ov m pl)
      callWith pos f first (backTo pos (starEach (e :: es) X.env)) (backToKw pos (keywordEach [] X.env))) := by rfl) :
    PE X (.Call (.Attribute o m apos) (e :: es) [] pos) (tSInst C m sp dvs E ta t) := by
  refine ⟨fun pins s σ H Q I h => ?_⟩
  refine PySem.W.methodCall_KW (pl := pl) (thn (he.run pins s σ H _ I h) fun u s1 ⟨x, H1, I1, rx, a, dx, fs, ex, ea, l, q⟩ => ?_) ht
  subst ex
  obtain rfl : u = Value.ref a := rx
  obtain ⟨mA, O, rr, _, _, _⟩ := ins_get I1.hok ea
  have hn : mA m = none := RelO.none_of (by rw [← l]; exact rr m)
  obtain ⟨od, J, hl⟩ := O.look
  refine getmethsi_ok I1 J (by rw [hl m, hn]) c fun s2 I2 => ?_
  refine PySem.W.callWith_K (h₀ := X.base) I2.ok.mod.kin c.kp (thn (ha.run pos pins s2 σ H1 _ I2 q) fun us s3 ⟨vs, H2, I3, rv, q2⟩ => ⟨I3.kIn, ?_⟩) hst hpl
  exact run_fn F hr hb hd hx I3 rv q2
end
/-- either way -/
abbrev tEitherV (t u : TE) : TE := fun σ H Q => t σ H Q ∨ u σ H Q
theorem PE.orT {X : Cx} {e : Expr} {t u : TE} (h1 : PE X e t) (h2 : PE X e u) : PE X e (tEitherV t u) := ⟨fun pins s σ H Q I h => h.elim (h1.run pins s σ H Q I) (h2.run pins s σ H Q I)⟩
end L2
namespace L2
open PySem PySem.Spec PyProof.Rows
/-! ### the facts of such a def -/
abbrev file0 : Str := "/claim/cut.py"
structure FileOk (P : Program) : Prop where
  file : ((P.main.file : Str) == file0) = true
  top : (P.main.scope.names.lookup ("super" : Str)).isSome = false
structure SuFun (K : PySem.W.Frag) (x qual : Str) (st : Stmt) (f : Addr) (fd : FuncData) (D : Addr) : Prop where
  ex : ∃ (cc cda : Addr) (oc : Value) (od : Option Addr) (dV kV doc pm : Value) (an : Option Addr) (ct : Value) (osl : Array (Option Value)) (cl : Value) (cld : Option Addr) (csl : Array (Option Value)) (ccl : Value) (cdd : Option Addr) (vs : Array Value) (ccs : Array (Option Value)) (tf : Tok),
    fd = PySem.W.ksFn x qual (defArgs st) (defBody st) (defScope st) dV kV doc pm an (.ref cda) ct cc ∧ K.lookup f = some ⟨oc, od, .func fd, osl⟩ ∧ PySem.W.codeIn K (.ref cda) qual = true ∧
    K.lookup cc = some ⟨cl, cld, .cell (some (.ref D)), csl⟩ ∧ K.lookup cda = some ⟨ccl, cdd, .fields vs, ccs⟩ ∧ vs[2]? = some (.str file0 tf) ∧
    (dV = .none ∨ ∃ TD o its n, dV = .ref TD ∧ K.lookup TD = some o ∧ o.data = .seq its n)
  cls : (PySem.W.clsIn K D).isSome = true
theorem SuFun.ok {P : Program} {w : World} {K : PySem.W.Frag} {mg : Str → Option Value} {base : Heap} {x qual : Str} {st : Stmt} {f D : Addr} {fd : FuncData} {N ps : List Str} {k : Nat} {sp : Sp} {ar : Arg} (hP : FileOk P) (F : SuFun K x qual st f fd D)
    (har : ((defArgs st).posonlyargs ++ (defArgs st).args).head? = some ar) (S : SuScope N ps (defScope st)) (len : ∀ vs H Q E, sp vs H Q E → vs.length = ps.length)
    (hbody : ∀ (cda cc : Addr) (A : Around) (outer : List Env) (s : Shared) (H : Hp) (vs : List V) (Q : VK) (E : XK), Room k (A.deeper (PySem.W.ksEnv qual (defScope st) s.heap.objs.size f (.ref cda) cc)) → SupOk P K f cda cc D ar.arg → sp vs H Q E →
      ∃ t, PSAts (cxS CX0 P w K mg base N qual (defScope st) f (.ref cda) cc A outer s H E) (defBody st) (defBody st) t ∧ t { nx := fun _ H' => Q .non H', rt := Q } (start N vs) H) :
    FnOk P w K mg base CX0 (k + 1) f fd ps sp := by
  obtain ⟨cc, cda, oc, od, dV, kV, doc, pm, an, ct, osl, cl, cld, csl, ccl, cdd, vs, ccs, tf, rfl, lk, hcd, lc, lcd, hv, hd⟩ := F.ex
  exact fn_ofS lk hcd lc S len fun A outer s H vs' Q E hr hsp => hbody cda cc A outer s H vs' Q E hr
    ⟨⟨oc, od, _, osl, ar, lk, har, rfl⟩, ⟨ccl, cdd, vs, ccs, file0, tf, lcd, hv, hP.file⟩, ⟨cl, cld, csl, lc⟩, F.cls, hP.top⟩ hsp
/-- the j-th statement of a class -/
def inCls (st : Stmt) (j : Nat) : Stmt := match st with
  | .ClassDef _ _ _ b _ _ _ _ _ _ _ => b.getD j (.Pass ⟨0, 0, 0, 0⟩)
  | _ => .Pass ⟨0, 0, 0, 0⟩
end L2
namespace L2
open PySem PySem.Spec PyProof.Rows
def g2 {α : Type} : List α → List α → List α
  | [a], [b] => [a, b]
  | _, _ => []
def g3a {α : Type} : List α → List α → List α
  | [a], [b, c] => [a, b, c]
  | _, _ => []
def g3b {α : Type} : List α → List α → List α
  | [a], [c, b] => [a, b, c]
  | _, _ => []
theorem rel_g2 {vs : List V} {us : List Value} {zs : List V} {ws : List Value} (r : Vals vs us) (z : Vals zs ws) : Vals (g2 vs zs) (g2 us ws) := by
  cases r with
  | nil => exact .nil
  | cons a r => cases r with
    | cons _ _ => exact .nil
    | nil => cases z with
      | nil => exact .nil
      | cons b z => cases z with
        | nil => exact .cons a (.cons b .nil)
        | cons _ _ => exact .nil
theorem rel_g3a {vs : List V} {us : List Value} {zs : List V} {ws : List Value} (r : Vals vs us) (z : Vals zs ws) : Vals (g3a vs zs) (g3a us ws) := by
  cases r with
  | nil => exact .nil
  | cons a r => cases r with
    | cons _ _ => exact .nil
    | nil => cases z with
      | nil => exact .nil
      | cons b z => cases z with
        | nil => exact .nil
        | cons c z => cases z with
          | nil => exact .cons a (.cons b (.cons c .nil))
          | cons _ _ => exact .nil
theorem rel_g3b {vs : List V} {us : List Value} {zs : List V} {ws : List Value} (r : Vals vs us) (z : Vals zs ws) : Vals (g3b vs zs) (g3b us ws) := by
  cases r with
  | nil => exact .nil
  | cons a r => cases r with
    | cons _ _ => exact .nil
    | nil => cases z with
      | nil => exact .nil
      | cons b z => cases z with
        | nil => exact .nil
        | cons c z => cases z with
          | nil => exact .cons a (.cons c (.cons b .nil))
          | cons _ _ => exact .nil
theorem looks_dflt {fd : FuncData} {args : Args} {K : PySem.W.Frag} {M : Model} {h : Heap} {T : Addr} {o : Obj} {its : Array Value} {n : Nat} {k : Option (Array Value) → Sem (List (Str × Value))} {r : List (Str × Value)} (X : K.In h) (lT : K.lookup T = some o) (oT : o.data = .seq its n)
    (e : bindArgs fd args = seqItems? (.ref T) >>= k) (e2 : k (some its) = pure r) : PySem.W.Looks M h (bindArgs fd args) r := by
  rw [e]
  exact looks_items X lT oT (.of_pure e2)
end L2

namespace L2
open PySem PySem.Spec PyProof.Rows
/-- super().m as a value: a bound method, new -/
theorem getAttr_super {prog : Program} {w : World} {A : Around} {E : Value → Shared → Prop} {h : Heap} {g : Array GenState} {d : Drawn} {t : Nat} {os : OsState} {so D x C f : Addr} {of : Obj} {l₀ l : List Value} {K : PySem.W.Frag} {name : Str} {b : Bool} {Q : Value → Shared → Prop}
    (hso : h.get? so = some { cls := .type "super", dict := none, data := .fields #[.ref D, .ref x, .ref C], slots := #[] }) (hno : PySem.W.Looks (model prog w) h (opaqueClassAbove (.ref C)) none)
    (hC : PySem.W.Looks (model prog w) h (mroOf (.ref C)) l₀) (hl : (l₀.dropWhile (· != .ref D)).drop 1 = l) (X : K.In h)
    (hf : PySem.W.alongIn K name l = some (some (.ref f))) (hfo : h.get? f = some of) (hfc : of.cls = .type "function") (hxC : x ≠ C) (hn : (name == ("__class__" : Str)) = false)
    (hq : Q (.ref h.objs.size) ⟨h.push { cls := .type "method", data := .fields #[.ref f, .ref x] }, g, d, t + 1, os⟩) :
    wpAny (model prog w) A (getAttr (.ref so) name b) Q E ⟨h, g, d, t, os⟩ := by
  have hlk := F.ks_slot_super_ga.lookup
  have hT : ∀ t', (⟨h, g, d, t', os⟩ : Shared).TypeIs (.ref so) "super" := fun _ => ⟨_, hso, rfl⟩
  unfold getAttr getAttrBy
  refine wpAny_bind (wpAny_mkText (wpAny_holding (wpAny_bind (wpAny_typeOf (hT _) (wpAny_bind (wpAny_of_eq hlk ?_))))))
  show wpAny _ _ (getAttrByItsOwn (.ref so) (.str name t) (.type "super") (.builtin "super.__getattribute__") _ _) _ _ _
  unfold getAttrByItsOwn hookBefore callGetattribute boundAndCalled
  refine wpAny_bind (wpAny_of_eq (show (if onTheHeap (.type "super") then typeLookup (.type "super") "__getattr__" else pure none) = pure none from rfl) ?_)
  refine wpAny_bind (wpAny_attempt (wpAny_holding ?_))
  have hb : (b && onTheHeap (Value.builtin "super.__getattribute__")) = false := by cases b <;> rfl
  rw [if_neg (by rw [hb]; exact Bool.false_ne_true)]
  show wpAny _ _ (bindSpecial (.builtin "super.__getattribute__") (.ref so) >>= _) _ _ _
  refine wpAny_bind (wpAny_of_eq (F.ks_slot_super_ga.bind _) ?_)
  refine wpAny_mono (Q := fun v s' => v = .ref h.objs.size ∧ s' = ⟨h.push { cls := .type "method", data := .fields #[.ref f, .ref x] }, g, d, t + 1, os⟩) (E := fun _ _ => False)
    (wpAny_call_entry F.ks_slot_super_ga (hT _) F.ks_entry_super_ga (ks_wpAny_super_ga hso hno hC hl X hf hfo hfc hxC hn ⟨_, rfl, rfl, rfl⟩) (F.ks_gaArgs_super _ _)) (fun v s' hv => ?_) fun _ _ z => z.elim
  obtain ⟨rfl, rfl⟩ := hv
  exact wpAny_pure hq
theorem starcall_at {M : Model} {A : Around} {c : Code} {E : Value → Shared → Prop} {s : Shared} {env : Env} {o e : Expr} {m : Str} {p apos pos : Pos} {Q : Value → Shared → Prop}
    (h : _root_.PySem.wpAt M A c (attributeBase o m env (eval o env)) (fun ov s₁ => wpAny M A (getAttr ov m true) (fun f s₂ => wpAny M A (callWith pos f [] (backTo pos [(true, eval e env)]) []) Q E s₂) E s₁) E s) :
    _root_.PySem.wpAt M A c (eval (.Call (.Attribute o m apos) [.Starred e p] [] pos) env) Q E s := by
  have hse : starEach [.Starred e p] env = [(true, eval e env)] := rfl
  have hke : backToKw pos (keywordEach [] env) = [] := rfl
  have hform : methodCallForm ([Expr.Starred e p].length + ([] : List Keyword).length) (backTo pos [(true, eval e env)]) [] = false := rfl
  have hpos : methodCallPos false o env apos pos = pure pos := rfl
  have hcal : ∀ ov, calleeOf false o env ov m = (getAttr ov m true >>= fun v => pure (v, [])) := fun _ => rfl
  rw [arm_eval_Call, hse, hke]
  refine _root_.PySem.wpAt_bind (_root_.PySem.ks_wpAt_mono h (fun ov s₁ h₁ => _root_.PySem.wpAt_of_wpAny ?_) fun _ _ x => x)
  refine wpAny_bind (wpAny_standAt ?_)
  unfold methodCall
  rw [hform, hpos, hcal]
  refine wpAny_bind (wpAny_holding (wpAny_bind (wpAny_mono h₁ (fun f s₂ h₂ => wpAny_pure ?_) fun _ _ x => x)))
  exact wpAny_bind (wpAny_pure h₂)
section
variable {X : Cx} {CX : CXT} {b0 : List Stmt} {k i0 : Nat} {f cda cc D C f2 a dx : Addr} {fs : List (Str × V)} {ar0 m : Str} {sp : Sp} {E : XK} {e : Expr} {t : TA} {te : TE} {p p0 p1 apos pos : Pos} {pl : Sem Bool} {pins : List (Addr × Obj)} {σ : St} {H : Hp} {s : Shared}
/-- super() -/
theorem super_at {whole : Sem Value} {Q : Value → Shared → Prop} (S : SupOk X.prog X.K f cda cc D ar0) (hfu : X.env.func = some f) (hco : X.env.code = .ref cda) (hcl : X.env.cells.lookup ("__class__" : Str) = some cc) (hks : X.env.kindOf "super" = some .globalImplicit)
    (hkc : X.env.kindOf "__class__" = some .free) (hka : X.env.kindOf ar0 = some .local) (hi : X.N[i0]? = some ar0) (hm : X.mg "super" = none) (T : SupTo X.K C D f2 m) (I : Inv X pins σ H s) (hσ : σ[i0]? = some (some (.ref a))) (ea : H a = some (.ins C dx fs))
    (h : ∀ so h', Inv X ((so, PySem.W.ks_superObj D a C) :: pins) σ H { s with heap := h' } → X.K.In s.heap → (∃ odx, PySem.W.InstAt s.heap a (PySem.W.instObj C dx) C (some odx)) → Q (.ref so) { s with heap := h' }) :
    _root_.PySem.wpAt (model X.prog X.w) X.A (.func b0 X.env) (attributeBase (.Call (.Name "super" p0) [] [] p1) m X.env whole) Q X.xe s := by
  obtain ⟨oc, od, fd, osl, ar, lk, har, ear⟩ := S.fd
  obtain ⟨ccl, cdd, vs, ccs, file, tf, lkc, hvs, hfile⟩ := S.code
  obtain ⟨cl, cld, csl, lkcc⟩ := S.cell
  obtain ⟨cdD, hD⟩ := Option.isSome_iff_exists.mp S.cls
  have KX : X.K.In s.heap := I.kIn
  obtain ⟨mA, O, _⟩ := ins_get I.hok ea
  obtain ⟨odx, J, _⟩ := O.look
  obtain ⟨oD, hD1, hD2⟩ : ∃ oD, s.heap.get? D = some oD ∧ oD.data = .cls cdD := by
    unfold PySem.W.clsIn at hD
    split at hD
    · rename_i c d cd' sl ho
      cases hD
      exact ⟨_, KX _ _ ho, rfl⟩
    · cases hD
  obtain ⟨mm, hns, hlk⟩ := I.loc
  obtain ⟨u, ru, hlook⟩ := hlk i0 ar0 (.ref a) hi hσ (.inl hka)
  obtain rfl : u = Value.ref a := ru
  have hmm : mm ar0 = some (.ref a) := by
    rcases hlook with ⟨_, z⟩ | ⟨z, _⟩
    · exact z
    · rw [hka] at z; rcases z with z | z <;> cases z
  obtain ⟨mb, b1, b2⟩ := I.mod.blt
  refine _root_.PySem.ks_wpAt_super_base hks hkc T.ne hfu (KX _ _ lk) rfl har hco (KX _ _ lkc) rfl hvs hfile S.top ?_
  refine PySem.W.ks_loadName_global I.ok.kind hks (Calls.loadGlobal_builtin (by rw [I.ok.glob]; exact I.mod.glob.keeps I.bk) hm (by rw [I.ok.blt]; exact b1.keeps I.bk) ((b2 "super" (by decide)).trans boot_super) ⟨rfl, ?_⟩)
  refine wpAny_loadName_free I.ok.kind hkc hcl ⟨_, KX _ _ lkcc, rfl⟩ ?_
  rw [ear]
  refine wpAny_loadName_local I.ok.kind hka hns hmm ?_
  obtain ⟨hh, g, d, tt, os⟩ := s
  refine _root_.PySem.ks_wpAny_isType_cls hD1 hD2 ⟨rfl, ?_⟩
  refine _root_.PySem.ks_wpAny_call_super hD1 hD2 J.at_ J.cls (fun c e => ?_) (PySem.W.looks_mroIn KX T.sub) (fun h' e1 k1 => ?_)
  · have := J.no
    unfold PySem.W.notCls at this
    rw [e] at this
    exact Bool.noConfusion this
  exact h _ h' (ClX.pin_new (t' := tt) I (h' := h') k1 (Nat.le_refl _) e1 (fun v z => nomatch z)) KX ⟨odx, J⟩
/-- its method -/
theorem supattr_at {so : Addr} {h0 : Heap} {b : Bool} {Q : Value → Shared → Prop} (T : SupTo X.K C D f2 m) (I : Inv X ((so, PySem.W.ks_superObj D a C) :: pins) σ H s) (KX : X.K.In h0) (J : ∃ odx, PySem.W.InstAt h0 a (PySem.W.instObj C dx) C (some odx))
    (h : ∀ q s', Inv X ((q, PySem.W.methodObj (.ref f2) (.ref a)) :: (so, PySem.W.ks_superObj D a C) :: pins) σ H s' → X.base.get? q = none → Q (.ref q) s') : wpAny (model X.prog X.w) X.A (getAttr (.ref so) m b) Q X.xe s := by
  obtain ⟨odx, J⟩ := J
  obtain ⟨cdC, hC⟩ : ∃ cdC, PySem.W.clsIn X.K C = some cdC := by
    have q := T.to
    unfold PySem.W.ks_superIn at q
    cases z : PySem.W.clsIn X.K C with
    | none => rw [z] at q; cases q
    | some c => exact ⟨c, rfl⟩
  have hto := T.to
  unfold PySem.W.ks_superIn at hto
  rw [hC] at hto
  obtain ⟨hh, g, d, tt, os⟩ := s
  have KX1 : X.K.In hh := I.kIn
  obtain ⟨of, hof, hofc⟩ : ∃ of, hh.get? f2 = some of ∧ of.cls = .type "function" := by
    have ht' : (X.K.lookup f2).map (·.cls) = some (.type "function") := T.fn
    cases z : X.K.lookup f2 with
    | none => rw [z] at ht'; cases ht'
    | some of => rw [z] at ht'; exact ⟨of, KX1 _ _ z, Option.some.inj ht'⟩
  refine getAttr_super (ClX.pin_at I) (PySem.W.looks_opaque KX1 T.tp) (l₀ := cdC.mro) ?_ rfl KX1 hto hof hofc (PySem.W.ks_ne KX J hC) T.ne ?_
  · exact fun A Q E s k q => wpAny_bind ((PySem.W.looks_clsIn KX1 hC) A _ E s k (wpAny_pure q))
  exact h _ _ (ClX.pin_new (t' := tt + 1) I (h' := hh.push (PySem.W.methodObj (.ref f2) (.ref a))) (fun _ _ z => Heap.get?_push_of_some _ z) (Nat.le_refl _) (Heap.get?_push_size hh rfl) (fun v z => nomatch z)) (ClX.base_none I (Nat.le_refl _))
/-- super().m( *e), e a tuple -/
def tSuperS (K : PySem.W.Frag) (C : Addr) (i0 : Nat) (sp : Sp) (E : XK) (te : TE) : TE := fun σ H Q => ∃ a dx fs, σ[i0]? = some (some (.ref a)) ∧ H a = some (.ins C dx fs) ∧ te σ H fun y H2 => ∃ b vs, y = .ref b ∧ SqT K H2 b vs ∧ sp (.ref a :: vs) H2 Q E
theorem pea_superS (S : SupOk X.prog X.K f cda cc D ar0) (hfu : X.env.func = some f) (hco : X.env.code = .ref cda) (hcl : X.env.cells.lookup ("__class__" : Str) = some cc) (hks : X.env.kindOf "super" = some .globalImplicit)
    (hkc : X.env.kindOf "__class__" = some .free) (hka : X.env.kindOf ar0 = some .local) (hi : X.N[i0]? = some ar0) (hm : X.mg "super" = none) (T : SupTo X.K C D f2 m) (F : FnR X.prog X.w X.K X.mg X.base CX k f2 sp) (hr : Room k X.A) (hx : Passes CX X E)
    (ha : PE X e te) : PEAt X b0 (.Call (.Attribute (.Call (.Name "super" p0) [] [] p1) m apos) [.Starred e p] [] pos) (tSuperS X.K C i0 sp E te) := by
  refine ⟨fun pins s σ H Q I h => ?_⟩
  obtain ⟨a, dx, fs, hσ, ea, q⟩ := h
  refine starcall_at (super_at S hfu hco hcl hks hkc hka hi hm T I hσ ea fun so h' I1 KX J => ?_)
  refine supattr_at T I1 KX J fun q1 s2 I2 _ => ?_
  refine PySem.W.ks_call (P := PySem.W.MethP X.K q1 f2 (.ref a)) rfl (PySem.W.keeps_M T.fi) (PySem.W.ks_lone ?_)
  refine thn (ha.run _ s2 σ H _ I2 q) fun v s3 ⟨y, H2, I3, ry, t, vs, ey, ht, hsp⟩ => ?_
  subst ey
  obtain rfl : v = Value.ref t := ry
  refine star_tup I3 ht fun us s4 I4 rv => ⟨⟨ClX.pin_at I4, I4.kIn⟩, ?_⟩
  exact thn (wpAny_call (PySem.W.method_call (ClX.pin_at I4) (run_fnR (us := Value.ref a :: us) (vs := V.ref a :: vs) F hr hx I4 (.cons rfl rv) hsp))) fun _ _ y => ClX.unpinE (ClX.unpinE y)
end
section
variable {X : Cx} {CX : CXT} {b0 : List Stmt} {k i0 : Nat} {f cda cc D C f2 : Addr} {ar0 m : Str} {sp : Sp} {E : XK} {p0 p1 apos pos : Pos} {pl : Sem Bool}
/-- super().m() -/
def tSuper0 (C : Addr) (i0 : Nat) (sp : Sp) (E : XK) : TE := fun σ H Q => ∃ a dx fs, σ[i0]? = some (some (.ref a)) ∧ H a = some (.ins C dx fs) ∧ sp [.ref a] H Q E
theorem pea_super0 (S : SupOk X.prog X.K f cda cc D ar0) (hfu : X.env.func = some f) (hco : X.env.code = .ref cda) (hcl : X.env.cells.lookup ("__class__" : Str) = some cc) (hks : X.env.kindOf "super" = some .globalImplicit)
    (hkc : X.env.kindOf "__class__" = some .free) (hka : X.env.kindOf ar0 = some .local) (hi : X.N[i0]? = some ar0) (hm : X.mg "super" = none) (T : SupTo X.K C D f2 m) (F : FnR X.prog X.w X.K X.mg X.base CX k f2 sp) (hr : Room k X.A) (hx : Passes CX X E)
    (ht : eval (.Call (.Attribute (.Call (.Name "super" p0) [] [] p1) m apos) [] [] pos) X.env = (do
      let ov ← attributeBase (.Call (.Name "super" p0) [] [] p1) m X.env (eval (.Call (.Name "super" p0) [] [] p1) X.env)
      standAt apos.atName
      let (f, first) ← holding [ov] (getMethod ov m pl)
      callWith pos f first (backTo pos (starEach [] X.env)) []) := by rfl) :
    PEAt X b0 (.Call (.Attribute (.Call (.Name "super" p0) [] [] p1) m apos) [] [] pos) (tSuper0 C i0 sp E) := by
  refine ⟨fun pins s σ H Q I h => ?_⟩
  obtain ⟨a, dx, fs, hσ, ea, q⟩ := h
  refine _root_.PySem.ks_wpAt_MethodCall (pl := pl) (super_at S hfu hco hcl hks hkc hka hi hm T I hσ ea fun so h' I1 KX J => ?_) ht
  obtain ⟨odx, J⟩ := J
  obtain ⟨cdC, hC⟩ : ∃ cdC, PySem.W.clsIn X.K C = some cdC := by
    have q := T.to
    unfold PySem.W.ks_superIn at q
    cases z : PySem.W.clsIn X.K C with
    | none => rw [z] at q; cases q
    | some c => exact ⟨c, rfl⟩
  have hto := T.to
  unfold PySem.W.ks_superIn at hto
  rw [hC] at hto
  have KX1 : X.K.In h' := I1.kIn
  obtain ⟨of, hof, hofc⟩ : ∃ of, h'.get? f2 = some of ∧ of.cls = .type "function" := by
    have ht' : (X.K.lookup f2).map (·.cls) = some (.type "function") := T.fn
    cases z : X.K.lookup f2 with
    | none => rw [z] at ht'; cases ht'
    | some of => rw [z] at ht'; exact ⟨of, KX1 _ _ z, Option.some.inj ht'⟩
  refine _root_.PySem.ks_wpAny_getMethod_super (g := s.gens) (d := s.drawn) (t := s.toks) (os := s.os) (ClX.pin_at I1) (PySem.W.looks_opaque KX1 T.tp) (l₀ := cdC.mro) ?_ rfl KX1 hto hof hofc (PySem.W.ks_ne KX J hC) T.ne ?_
  · exact fun A Q E s k q => wpAny_bind ((PySem.W.looks_clsIn KX1 hC) A _ E s k (wpAny_pure q))
  have I2 := ClX.pin_new (t' := s.toks + 1) I1 (h' := h'.push (PySem.W.methodObj (.ref f2) (.ref a))) (fun _ _ z => Heap.get?_push_of_some _ z) (Nat.le_refl _) (Heap.get?_push_size h' rfl) (fun v z => nomatch z)
  refine PySem.W.callWith_M0 (first := []) ⟨ClX.pin_at I2, I2.kIn⟩ T.fi ?_
  exact thn (ClX.run_cm (us := []) (vs := []) F hr hx I2 .nil q) fun _ _ y => ClX.unpinE y
theorem pea_op {l rr : Expr} {op : Operator} {r : R2} {ta tb : TE} (ho : OpR X (binaryOp op) r) (ha : PEAt X b0 l ta) (hb : PE X rr tb) : PEAt X b0 (.BinOp l op rr pos) (tOp r ta tb) := by
  refine ⟨fun pins s σ H Q I h => ?_⟩
  refine _root_.PySem.ks_wpAt_BinOp (_root_.PySem.ks_wpAt_mono (ha.run pins s σ H _ I h) (fun v s1 ⟨x, H1, I1, r1, q1⟩ => ?_) fun _ _ z => z)
  exact thn (hb.run pins s1 σ H1 _ I1 q1) fun u s2 ⟨y, H2, I2, r2, q2⟩ => ho pins s2 σ H2 x y v u Q I2 r1 r2 q2
end
open StX in
/-- a def with a star parameter that closes over __class__, by its body -/
theorem fn_starS {CX : CXT} {P : Program} {w : World} {K : PySem.W.Frag} {mg : Str → Option Value} {base : Heap} {k : Nat} {f cc : Addr} {name qual : Str} {params : Arguments} {body : List Stmt} {scope : Scope} {dV kV doc pm cdv ct oc cl : Value} {an od cld : Option Addr}
    {osl csl : Array (Option Value)} {v0 : Option Value} {N ps : List Str} {pv : Str} {sp : Sp} (lk : K.lookup f = some ⟨oc, od, .func (PySem.W.ksFn name qual params body scope dV kV doc pm an cdv ct cc), osl⟩) (hcd : PySem.W.codeIn K cdv qual = true)
    (lkcc : K.lookup cc = some ⟨cl, cld, .cell v0, csl⟩) (S : SuScope N (ps ++ [pv]) scope) (hCX : CXUp CX)
    (hb : ∀ us rest : List Value, us.length = ps.length → bindArgs (PySem.W.ksFn name qual params body scope dV kV doc pm an cdv ct cc) ⟨us ++ rest, []⟩ = (newTuple rest >>= fun t => pure (ps.zip us ++ [(pv, t)])))
    (hbody : ∀ (A : Around) (outer : List Env) (s : Shared) (H : Hp) (vs : List V) (Q : VK) (E : XK), Room k (A.deeper (PySem.W.ksEnv qual scope s.heap.objs.size f cdv cc)) → sp vs H Q E →
      ∃ t, PSAts (cxS CX P w K mg base N qual scope f cdv cc A outer s H E) body body t ∧ t { nx := fun _ H' => Q .non H', rt := Q } (start N vs) H) :
    FnR P w K mg base CX (k + 1) f (fun vs H Q E => ∃ ws rest, vs = ws ++ rest ∧ ws.length = ps.length ∧ rest.length ≤ sizeLine ∧ ∀ p, H p = Option.none → sp (ws ++ [V.ref p]) (upd H p (.tup rest)) Q E) := by
  intro A outer s H us vs Q E hr e0 r hsp
  obtain ⟨ws, rest, ev, hl, hz, hq⟩ := hsp
  subst ev
  obtain ⟨u1, u2, eu, r1, r2⟩ := vals_split r
  subst eu
  have hn : H s.heap.objs.size = Option.none := e0.hok.fresh (Nat.le_refl _)
  have hl1 : u1.length = ps.length := by rw [← r1.length]; exact hl
  have hl2 : u2.length ≤ sizeLine := by rw [← r2.length]; exact hz
  have KX : K.In s.heap := e0.mod.kin.keeps fun b o e => (e0.bs b o e).1
  refine codeAny_call_function hr.depth (KX _ _ lk) rfl S.co S.gen rfl (PySem.W.codeRec_of KX hcd) ?_
  rw [hb u1 u2 hl1]
  refine wpAny_bind (wpAny_newTuple (wpAny_pure ?_) hl2)
  have new : ObjOk P w (upd H s.heap.objs.size (.tup rest)) (s.heap.push ({ cls := .type "tuple", data := .seq u2.toArray } : Obj)) s.heap.objs.size (.tup rest) := ⟨hz, u2, r2, ⟨_, Heap.get?_push_size _ rfl, rfl, _, rfl⟩⟩
  have un := un_laid (fs := frs outer) (s := s) (o := ({ cls := .type "tuple", data := .seq u2.toArray } : Obj)) (u := .tup rest) hn
  have e2 := env0_laid e0 new
  have lim : (s.heap.push ({ cls := .type "tuple", data := .seq u2.toArray } : Obj)).NoLimit := e0.mod.nolimit.keeps fun b o e => (e2.bs b o e).1
  rw [show ps.zip u1 ++ [(pv, Value.ref s.heap.objs.size)] = (ps ++ [pv]).zip (u1 ++ [Value.ref s.heap.objs.size]) from by rw [List.zip_append hl1.symm]; rfl]
  refine wpAny_newFunctionEnv (s := { s with heap := s.heap.push ({ cls := .type "tuple", data := .seq u2.toArray } : Obj) }) S.nocell (fun ⟨n, _⟩ hy => S.par n (List.of_mem_zip hy).1) (fun h₁ hns hsb => ⟨lim.fresh _ hsb, ?_⟩) S.kind
  refine (show codeAny _ _ (.func body (PySem.W.ksEnv qual scope (s.heap.push ({ cls := .type "tuple", data := .seq u2.toArray } : Obj)).objs.size f cdv cc)) _ _ from ?_)
  refine _root_.PySem.ks_codeAny_funcAt ?_
  have kp : ∀ b o, (s.heap.push ({ cls := .type "tuple", data := .seq u2.toArray } : Obj)).get? b = some o → h₁.get? b = some o := fun b o e => hsb.extBut b o (Nat.ne_of_lt (Heap.lt_size e)) (Heap.get?_push_of_some _ e)
  obtain ⟨t, ht, hq2⟩ := hbody A outer { s with heap := s.heap.push ({ cls := .type "tuple", data := .seq u2.toArray } : Obj) } (upd H s.heap.objs.size (.tup rest)) (ws ++ [V.ref s.heap.objs.size]) Q E (hr.deeper _) (hq _ hn)
  have I : Inv (cxS CX P w K mg base N qual scope f cdv cc A outer { s with heap := s.heap.push ({ cls := .type "tuple", data := .seq u2.toArray } : Obj) } (upd H s.heap.objs.size (.tup rest)) E) [] (start N (ws ++ [V.ref s.heap.objs.size])) (upd H s.heap.objs.size (.tup rest))
      { s with heap := h₁, toks := s.toks + ((ps ++ [pv]).zip (u1 ++ [Value.ref s.heap.objs.size])).length } :=
    inv_startS (s := { s with heap := s.heap.push ({ cls := .type "tuple", data := .seq u2.toArray } : Obj) }) S hr.hd e2 (by rw [List.length_append, List.length_append, hl]; rfl) (r1.append (.cons rfl .nil)) (e0.mod.kin _ _ lkcc) rfl hns kp
  refine _root_.PySem.ks_wpAt_mono (ht.run [] _ _ _ _ I hq2) (fun fl s' hs => ?_) fun e s' hs => ?_
  · have fin : ∀ {σ' : St} {H' : Hp} {v : V} {u : Value}, Inv (cxS CX P w K mg base N qual scope f cdv cc A outer { s with heap := s.heap.push ({ cls := .type "tuple", data := .seq u2.toArray } : Obj) } (upd H s.heap.objs.size (.tup rest)) E) [] σ' H' s' → RelV v u → Q v H' → CE outer P w H s Q u s' :=
      fun {σ' H' v u} J rv q => ⟨v, H', J.os, J.bare, un.trans J.base, J.hok, rv, q⟩
    cases fl with
    | ret u =>
      obtain ⟨v, σ', H', J, rv, q⟩ := hs
      exact fin J rv q
    | next =>
      obtain ⟨σ', H', J, q⟩ := hs
      exact fin (v := V.non) (u := Value.none) J rfl q
    | brk =>
      obtain ⟨_, _, _, q⟩ := hs
      exact False.elim q
    | cont =>
      obtain ⟨_, _, _, q⟩ := hs
      exact False.elim q
  · have up : ∀ (e : Value) (s'' : Shared), CX outer (upd H s.heap.objs.size (.tup rest)) { s with heap := s.heap.push ({ cls := .type "tuple", data := .seq u2.toArray } : Obj) } E e s'' → CX outer H s E e s'' := fun e s'' z => hCX outer s H { s with heap := s.heap.push ({ cls := .type "tuple", data := .seq u2.toArray } : Obj) } _ E e s'' un (fun b o q => Heap.get?_push_of_some _ q) rfl z
    exact wpAny_mono hs (fun _ s'' z => up _ _ z) fun e' s'' z => up _ _ z
end L2
namespace L2
open PySem PySem.Spec PyProof.Rows
/-- len(o), o an instance of a class with its own __len__ -/
def rLenI (C : Addr) (sp : Sp) (E : XK) : List V → Hp → VK → Prop := fun xs H Q => ∃ a dx fs, xs = [V.ref a] ∧ H a = some (.ins C dx fs) ∧ sp [.ref a] H (fun v H2 => ∃ n : Int, v = .int n ∧ 0 ≤ n ∧ n < 2 ^ 63 ∧ Q (.int n) H2) E
theorem call_lenI {X : Cx} {CX : CXT} {k : Nat} {C f : Addr} {sp : Sp} {E : XK} (hs : PySem.W.findIn X.K (.ref C) "__len__" = some (some (.ref f))) (hf : PySem.W.isFn X.K (.ref f) = true) (F : FnR X.prog X.w X.K X.mg X.base CX k f sp) (hr : Room (k + 1) X.A) (hx : Passes CX X E) :
    CallR X (.builtin "len") (rLenI C sp E) := by
  intro pins s σ H xs us Q I r h
  obtain ⟨a, dx, fs, rfl, ea, q⟩ := h
  obtain ⟨u, rfl, ru⟩ := vals1 r
  obtain rfl : u = Value.ref a := ru
  obtain ⟨mA, O, _⟩ := ins_get I.hok ea
  obtain ⟨od, J, _⟩ := O.look
  obtain ⟨m, fr⟩ := I.fr
  refine PySem.W.len_K fr I.ok.mod.kin J hs hf ?_
  refine wpAny_call (codeAny_mono (F X.A.in1 X.stack s H [.ref a] [.ref a] _ E hr.in1 I.env0.in1 (.cons rfl .nil) q) fun r s' hq => ?_)
  cases r with
  | error e => exact hx pins σ H s e s' I hq
  | ok fl =>
    cases fl with
    | ret u =>
      obtain ⟨v, H', I3, rv, n, ev, n0, n1, q⟩ := I.after hq
      subst ev
      obtain ⟨t, rfl⟩ := rv
      exact ⟨⟨n0, n1⟩, .int n, H', I3.tok _, ⟨_, rfl⟩, q⟩
    | next => exact False.elim hq
    | brk => exact False.elim hq
    | cont => exact False.elim hq
end L2
namespace L2
open PySem PySem.Spec PyProof.Rows
theorem pe_fldA {X : Cx} {e : Expr} {f : Str} {pos : Pos} {ta : TE} (he : PE X e ta) (hb : attributeBase e f X.env (eval e X.env) = eval e X.env := by rfl) : PE X (.Attribute e f pos) (tFld X.K ta f) := pe_fld he hb
end L2

namespace L2
open PySem PySem.Spec PyProof.Rows
section
variable {X : Cx}
/-- o.f as a target -/
def gFld (K : PySem.W.Frag) (to : TE) (f : Str) : TG := fun v σ H Q => to σ H fun x H2 => ∃ a C dx fs, x = .ref a ∧ H2 a = some (.ins C dx fs) ∧ Cls K C ∧ NoAttr K C f ∧ fs.length < 1000 ∧ Q σ (upd H2 a (.ins C dx (putF f v fs)))
theorem pg_fld {o : Expr} {f : Str} {pos : Pos} {to : TE} (ho : PE X o to) : PG X (.Attribute o f pos) (gFld X.K to f) := by
  refine ⟨fun pins s σ H v u Q I r h => ?_⟩
  rw [assign_Attribute]
  refine wpAny_bind (wpAny_holding (thn (ho.run pins s σ H _ I h) fun ov s1 ⟨x, H1, I1, r1, a, C, dx, fs, ex, ea, c, n, l, q⟩ => ?_))
  subst ex
  obtain rfl : ov = Value.ref a := r1
  refine wpAny_bind (wpAny_standAt (wpAny_bind (wpAny_holding (setattr_ok I1 ea c n l r fun s3 I3 => ?_))))
  exact wpAny_release ⟨σ, _, I3, q⟩
/-- o.m() by a positional promise -/
theorem pe_methR0 {CX : CXT} {k : Nat} {C f : Addr} {m : Str} {sp : Sp} {E : XK} {o : Expr} {ta : TE} {apos pos : Pos} {pl : Sem Bool} (he : PE X o ta) (c : Cls X.K C) (hm : Meth X.K C m f)
    (F : FnR X.prog X.w X.K X.mg X.base CX k f sp) (hr : Room k X.A) (hx : Passes CX X E)
    (ht : eval (.Call (.Attribute o m apos) [] [] pos) X.env = (do
      let ov ← eval o X.env
      standAt apos.atName
      let (f, first) ← holding [ov] (getMethod ov m pl)
      callWith pos f first (backTo pos (starEach [] X.env)) (backToKw pos (keywordEach [] X.env))) := by rfl) :
    PE X (.Call (.Attribute o m apos) [] [] pos) (tMethR C m sp E ta tNil) := by
  refine ⟨fun pins s σ H Q I h => ?_⟩
  refine PySem.W.methodCall_KW (pl := pl) (thn (he.run pins s σ H _ I h) fun u s1 ⟨x, H1, I1, rx, a, dx, fs, ex, ea, l, q⟩ => ?_) ht
  subst ex
  obtain rfl : u = Value.ref a := rx
  refine getmeth_ok I1 ea c hm l ?_
  exact PySem.W.callWith_K0 (first := [.ref a]) I1.kIn hm.kp (wpAny_call (run_fnR (us := [.ref a]) (vs := [.ref a]) F hr hx I1 (.cons rfl .nil) q))
/-- a plain def f(self, *v) -/
theorem fn_star1 {P : Program} {w : World} {K : PySem.W.Frag} {mg : Str → Option Value} {base : Heap} {k : Nat} {f : Addr} {x qual p1 pv : Str} {st : Stmt} {fd : FuncData} {N : List Str} {sp : Sp} (F : Fun K x qual st f fd) (S : FnScope N [p1, pv] (defScope st))
    (h0 : ∀ (kV doc pm cdv ct : Value) (an : Option Addr) a, bindArgs (PySem.W.fnOf x qual (defArgs st) (defBody st) (defScope st) .none kV doc pm an cdv ct) ⟨[a], []⟩ = (newTuple [] >>= fun t => pure [(p1, a), (pv, t)]))
    (h1 : ∀ (kV doc pm cdv ct : Value) (an : Option Addr) a r rs, bindArgs (PySem.W.fnOf x qual (defArgs st) (defBody st) (defScope st) .none kV doc pm an cdv ct) ⟨a :: r :: rs, []⟩ = (newTuple (r :: rs) >>= fun t => pure [(p1, a), (pv, t)]))
    (hbody : ∀ (cdv : Value) (A : Around) (outer : List Env) (s : Shared) (H : Hp) (vs : List V) (Q : VK) (E : XK), Room k (A.deeper (envOfC qual (defScope st) s.heap.objs.size f cdv)) → sp vs H Q E →
      ∃ t, PSs (cxOf CX0 P w K mg base N qual (defScope st) f cdv A outer s H E).nox (defBody st) t ∧ t { nx := fun _ H' => Q .non H', rt := Q } (start N vs) H) :
    FnR P w K mg base CX0 (k + 1) f (fun vs H Q E => ∃ ws rest, vs = ws ++ rest ∧ ws.length = [p1].length ∧ rest.length ≤ sizeLine ∧ ∀ p, H p = Option.none → sp (ws ++ [V.ref p]) (upd H p (.tup rest)) Q E) := by
  obtain ⟨oc, od, kV, doc, pm, an, cdv, ct, osl, rfl, lk, hcd⟩ := F.ex
  exact StX.fn_star (ps := [p1]) lk hcd S StX.cxUp_none (StX.bind_star1 (p1 := p1) (pv := pv) (B := fun us => bindArgs (PySem.W.fnOf x qual (defArgs st) (defBody st) (defScope st) .none kV doc pm an cdv ct) ⟨us, []⟩) (h0 _ _ _ _ _ _) (h1 _ _ _ _ _ _)) fun A outer s H vs Q E hr h => let ⟨t, y, q⟩ := hbody cdv A outer s H vs Q E hr h; ⟨t, y.nox, q⟩
section
variable {X : Cx} {CX : CXT} {k : Nat} {f C : Addr} {fd : FuncData} {ps : List Str} {sp : Sp} {E : St → XK} {m : Str} {pos apos : Pos} {o : Expr} {ta : TE}
/-- o.m() in a try's body -/
def tMethS0 (C : Addr) (m : Str) (sp : Sp) (E : St → XK) (ta : TE) : TE := fun σ H Q => ta σ H fun x H1 => ∃ a dx fs, x = .ref a ∧ H1 a = some (.ins C dx fs) ∧ fs.lookup m = none ∧ sp [x] H1 Q (E σ)
theorem pe_methS0 {pl : Sem Bool} (he : PE X o ta) (c : Cls X.K C) (hm : Meth X.K C m f) (F : FnOk X.prog X.w X.K X.mg X.base CX k f fd ps sp) (hr : Room k X.A) (hb : Binds X.K fd ps []) (hx : ∀ σ, PassesAt CX X σ (E σ))
    (ht : eval (.Call (.Attribute o m apos) [] [] pos) X.env = (do
      let ov ← eval o X.env
      standAt apos.atName
      let (f, first) ← holding [ov] (getMethod ov m pl)
      callWith pos f first (backTo pos (starEach [] X.env)) (backToKw pos (keywordEach [] X.env))) := by rfl) :
    PE X (.Call (.Attribute o m apos) [] [] pos) (tMethS0 C m sp E ta) := by
  refine ⟨fun pins s σ H Q I h => ?_⟩
  refine PySem.W.methodCall_KW (pl := pl) (thn (he.run pins s σ H _ I h) fun u s1 ⟨x, H1, I1, rx, a, dx, fs, ex, ea, l, q⟩ => ?_) ht
  subst ex
  obtain rfl : u = Value.ref a := rx
  refine getmeth_ok I1 ea c hm l ?_
  exact PySem.W.callWith_K0 (first := [.ref a]) I1.kIn hm.kp (run_fnS (us := [.ref a]) (vs := [.ref a]) F hr hb (hx σ) I1 (.cons rfl .nil) q)
end
end
end L2

/-! walls: the mathematics -/
namespace Lc
/-- the columns and tops of a wall's cards -/
abbrev wl (r : Bool) (g : Int) (n : Nat) (ks : List Int) : List (Nat × Int) := (play r (List.replicate n 0) (ks.map fun h => h + g)).1
def colsV (r : Bool) (g : Int) (n : Nat) (ks : List Int) : List Int := (wl r g n ks).map fun p => (p.1 : Int)
def topsV (r : Bool) (g : Int) (n : Nat) (ks : List Int) : List Int := (wl r g n ks).map (·.2)
def bots (n : Nat) (ps : List (Nat × Int)) (ks : List Int) : List Int := (ps.zip ks).foldl (fun b q => b.set q.1.1 (q.1.2 + q.2)) (List.replicate n 0)
theorem bots_snoc {n : Nat} {ps : List (Nat × Int)} {ks : List Int} {p : Nat × Int} {k : Int} (h : ps.length = ks.length) : bots n (ps ++ [p]) (ks ++ [k]) = (bots n ps ks).set p.1 (p.2 + k) := by
  unfold bots
  rw [List.zip_append h, List.foldl_append]
  rfl
theorem bots_len {n : Nat} : ∀ {ps : List (Nat × Int)} {ks : List Int}, (bots n ps ks).length = n := by
  intro ps ks
  unfold bots
  have : ∀ (l : List ((Nat × Int) × Int)) (b : List Int), (l.foldl (fun b q => b.set q.1.1 (q.1.2 + q.2)) b).length = b.length := by
    intro l
    induction l with
    | nil => intro b; rfl
    | cons q l ih => intro b; rw [List.foldl_cons, ih, List.length_set]
  rw [this, List.length_replicate]
theorem wl_len {r : Bool} {g : Int} {n : Nat} {ks : List Int} : (wl r g n ks).length = ks.length := by
  unfold wl
  rw [play_len, List.length_map]
theorem zs_ne {n : Nat} (h : 1 ≤ n) : List.replicate n (0 : Int) ≠ [] := by
  intro e
  have := congrArg List.length e
  rw [List.length_replicate] at this
  simp at this; omega
theorem wl_snoc {r : Bool} {g : Int} {n : Nat} {ks : List Int} {k : Int} : wl r g n (ks ++ [k]) = wl r g n ks ++ [(low r (play r (List.replicate n 0) (ks.map fun h => h + g)).2, mn (play r (List.replicate n 0) (ks.map fun h => h + g)).2)] := by
  unfold wl
  rw [List.map_append, List.map_singleton, play_snoc]
  rfl
theorem play_n {r : Bool} {n : Nat} {ks : List Int} : (play r (List.replicate n 0) ks).2.length = n := by rw [play_cols, List.length_replicate]
theorem colsV_len {r : Bool} {g : Int} {n : Nat} {ks : List Int} : (colsV r g n ks).length = ks.length := by unfold colsV; rw [List.length_map, wl_len]
theorem topsV_len {r : Bool} {g : Int} {n : Nat} {ks : List Int} : (topsV r g n ks).length = ks.length := by unfold topsV; rw [List.length_map, wl_len]
theorem wl_lt {r : Bool} {g : Int} {n : Nat} {ks : List Int} (hn : 1 ≤ n) {i : Nat} {p : Nat × Int} (e : (wl r g n ks)[i]? = some p) : p.1 < n := by
  have il : i < ks.length := by
    have := (List.getElem?_eq_some_iff.mp e).1
    rwa [wl_len] at this
  have e2 : (ks.map fun h => h + g)[i]? = some (ks[i] + g) := by rw [List.getElem?_map, List.getElem?_eq_getElem il]; rfl
  unfold wl at e
  rw [play_at e2] at e
  cases e
  have := low_lt (r := r) (cs := (play r (List.replicate n 0) ((ks.map fun h => h + g).take i)).2) (play_ne (zs_ne hn))
  rwa [play_n] at this
theorem colsV_app {r : Bool} {g : Int} {n : Nat} {a b : List Int} : (colsV r g n (a ++ b)).take a.length = colsV r g n a := by
  unfold colsV wl
  rw [List.map_append, play_append]
  obtain ⟨t, e⟩ := fold_pre r (b.map fun h => h + g) (play r (List.replicate n 0) (a.map fun h => h + g))
  rw [e, List.map_append]
  have : a.length = ((play r (List.replicate n 0) (a.map fun h => h + g)).1.map fun p => (p.1 : Int)).length := by rw [List.length_map, play_len, List.length_map]
  rw [this, List.take_left']
  rfl
theorem filt_split {n k : Nat} {p : Nat → Bool} (h : k < n) : (List.range n).filter p = (List.range k).filter p ++ ((if p k = true then [k] else []) ++ ((List.range (n - k - 1)).map fun j => k + 1 + j).filter p) := by
  have e : n = (k + 1) + (n - k - 1) := by omega
  conv => lhs; rw [e, List.range_add, List.filter_append, List.range_succ, List.filter_append, List.append_assoc]
  refine congrArg _ (congrArg (· ++ _) ?_)
  by_cases q : p k = true
  · rw [if_pos q, List.filter_cons_of_pos q]; rfl
  · rw [if_neg q, List.filter_cons_of_neg q]; rfl
theorem filt_none {p : Nat → Bool} {l : List Nat} (h : ∀ j ∈ l, p j = false) : l.filter p = [] := List.filter_eq_nil_iff.mpr fun j hj => by rw [h j hj]; exact Bool.false_ne_true
/-- the places of the lowest columns -/
def spotsL (cs : List Int) : List Nat := (List.range cs.length).filter fun j => decide (cs[j]? = some (mn cs))
theorem spots_first {cs : List Int} (h : cs ≠ []) : (spotsL cs)[0]? = some (low false cs) := by
  unfold spotsL
  rw [filt_split (k := low false cs) (low_lt h), filt_none (l := List.range (low false cs)) fun j hj => ?_, if_pos (decide_eq_true (low_get h))]
  · rfl
  · refine decide_eq_false fun e => ?_
    have hj := List.mem_range.mp hj
    unfold low at hj
    rw [if_neg (by simp)] at hj
    exact ix_first hj e rfl
theorem spots_last {cs : List Int} (h : cs ≠ []) : 0 < (spotsL cs).length ∧ (spotsL cs)[(spotsL cs).length - 1]? = some (low true cs) := by
  have key : spotsL cs = (List.range (low true cs)).filter (fun j => decide (cs[j]? = some (mn cs))) ++ [low true cs] := by
    unfold spotsL
    rw [filt_split (k := low true cs) (low_lt h), filt_none (l := (List.range _).map _) fun j hj => ?_, if_pos (decide_eq_true (low_get h))]
    · rfl
    · refine decide_eq_false fun e => ?_
      obtain ⟨i, hi, rfl⟩ := List.mem_map.mp hj
      have hi := List.mem_range.mp hi
      have lt := low_lt (r := true) h
      have hm := (mn_spec h).1
      have il : ix (mn cs) cs.reverse < cs.length := by
        have := (List.getElem?_eq_some_iff.mp (ix_get (cs := cs.reverse) (List.mem_reverse.mpr hm))).1
        rwa [List.length_reverse] at this
      have el : low true cs = cs.length - 1 - ix (mn cs) cs.reverse := rfl
      have e2 : cs.reverse[cs.length - 1 - (low true cs + 1 + i)]? = some (mn cs) := by
        rw [List.getElem?_reverse (by omega)]
        have : cs.length - 1 - (cs.length - 1 - (low true cs + 1 + i)) = low true cs + 1 + i := by omega
        rw [this]; exact e
      exact ix_first (m := mn cs) (by omega) e2 rfl
  rw [key]
  constructor
  · rw [List.length_append]; simp
  · rw [List.length_append, List.length_singleton, Nat.add_sub_cancel, List.getElem?_append_right (Nat.le_refl _), Nat.sub_self]
    rfl
end Lc

namespace K20
open PySem PySem.Spec PyProof.Rows L2 Lc
def topS (i : Nat) : Stmt := PySem.Challenge.pw_lowcolumns_k20_calls_reverted.main.body.getD i (.Pass ⟨0, 0, 0, 0⟩)
abbrev s_is_integer_within : Stmt := topS 13
abbrev nm_is_integer_within : List Str := ["value", "least", "greatest"]
theorem sc_is_integer_within : FnScope nm_is_integer_within ["value", "least", "greatest"] (defScope s_is_integer_within) :=
  ⟨rfl, rfl, rfl, by decide +kernel, rfl, by decide +kernel, by decide +kernel⟩
abbrev s_is_one_height : Stmt := topS 15
abbrev nm_is_one_height : List Str := ["value"]
theorem sc_is_one_height : FnScope nm_is_one_height ["value"] (defScope s_is_one_height) :=
  ⟨rfl, rfl, rfl, by decide +kernel, rfl, by decide +kernel, by decide +kernel⟩
abbrev s_check_columns : Stmt := topS 16
abbrev nm_check_columns : List Str := ["columns"]
theorem sc_check_columns : FnScope nm_check_columns ["columns"] (defScope s_check_columns) :=
  ⟨rfl, rfl, rfl, by decide +kernel, rfl, by decide +kernel, by decide +kernel⟩
abbrev s_check_height : Stmt := topS 17
abbrev nm_check_height : List Str := ["height"]
theorem sc_check_height : FnScope nm_check_height ["height"] (defScope s_check_height) :=
  ⟨rfl, rfl, rfl, by decide +kernel, rfl, by decide +kernel, by decide +kernel⟩
abbrev s_check_index : Stmt := topS 18
abbrev nm_check_index : List Str := ["index", "many"]
theorem sc_check_index : FnScope nm_check_index ["index", "many"] (defScope s_check_index) :=
  ⟨rfl, rfl, rfl, by decide +kernel, rfl, by decide +kernel, by decide +kernel⟩
abbrev s_lowest_column : Stmt := topS 22
abbrev nm_lowest_column : List Str := ["columns", "right", "lowest"]
theorem sc_lowest_column : FnScope nm_lowest_column ["columns", "right"] (defScope s_lowest_column) :=
  ⟨rfl, rfl, rfl, by decide +kernel, rfl, by decide +kernel, by decide +kernel⟩
abbrev s_lay_cards : Stmt := topS 23
abbrev nm_lay_cards : List Str := ["start", "heights", "right", "columns", "places", "height", "column", "top"]
theorem sc_lay_cards : FnScope nm_lay_cards ["start", "heights", "right"] (defScope s_lay_cards) :=
  ⟨rfl, rfl, rfl, by decide +kernel, rfl, by decide +kernel, by decide +kernel⟩
abbrev s_with_item : Stmt := topS 25
abbrev nm_with_item : List Str := ["items", "index", "item"]
theorem sc_with_item : FnScope nm_with_item ["items", "index", "item"] (defScope s_with_item) :=
  ⟨rfl, rfl, rfl, by decide +kernel, rfl, by decide +kernel, by decide +kernel⟩
abbrev s_without_item : Stmt := topS 26
abbrev nm_without_item : List Str := ["items", "index"]
theorem sc_without_item : FnScope nm_without_item ["items", "index"] (defScope s_without_item) :=
  ⟨rfl, rfl, rfl, by decide +kernel, rfl, by decide +kernel, by decide +kernel⟩
abbrev s_with_moved_item : Stmt := topS 27
abbrev nm_with_moved_item : List Str := ["items", "index", "place"]
theorem sc_with_moved_item : FnScope nm_with_moved_item ["items", "index", "place"] (defScope s_with_moved_item) :=
  ⟨rfl, rfl, rfl, by decide +kernel, rfl, by decide +kernel, by decide +kernel⟩
abbrev s_with_other_item : Stmt := topS 28
abbrev nm_with_other_item : List Str := ["items", "index", "item"]
theorem sc_with_other_item : FnScope nm_with_other_item ["items", "index", "item"] (defScope s_with_other_item) :=
  ⟨rfl, rfl, rfl, by decide +kernel, rfl, by decide +kernel, by decide +kernel⟩
abbrev s_law_source : Stmt := topS 38
abbrev nm_law_source : List Str := ["cell", "number"]
theorem sc_law_source : FnScope nm_law_source ["cell", "number"] (defScope s_law_source) :=
  ⟨rfl, rfl, rfl, by decide +kernel, rfl, by decide +kernel, by decide +kernel⟩
abbrev s_law_draw : Stmt := topS 39
abbrev nm_law_draw : List Str := ["source", "count", "digit"]
theorem sc_law_draw : FnScope nm_law_draw ["source", "count"] (defScope s_law_draw) :=
  ⟨rfl, rfl, rfl, by decide +kernel, rfl, by decide +kernel, by decide +kernel⟩
abbrev s_law_cells : Stmt := topS 40
abbrev nm_law_cells : List Str := ["script", "count"]
theorem sc_law_cells : FnScope nm_law_cells ["script", "count"] (defScope s_law_cells) :=
  ⟨rfl, rfl, rfl, by decide +kernel, rfl, by decide +kernel, by decide +kernel⟩
abbrev s_law_same : Stmt := topS 41
abbrev nm_law_same : List Str := ["found", "expected", "one", "other"]
theorem sc_law_same : FnScope nm_law_same ["found", "expected"] (defScope s_law_same) :=
  ⟨rfl, rfl, rfl, by decide +kernel, rfl, by decide +kernel, by decide +kernel⟩
abbrev s_law_laid : Stmt := topS 42
abbrev nm_law_laid : List Str := ["cards", "size", "mirror", "free", "here", "bottoms", "found", "highs", "tall", "least", "spots", "spot"]
theorem sc_law_laid : FnScope nm_law_laid ["cards", "size", "mirror", "free"] (defScope s_law_laid) :=
  ⟨rfl, rfl, rfl, by decide +kernel, rfl, by decide +kernel, by decide +kernel⟩
abbrev s_law_due : Stmt := topS 43
abbrev nm_law_due : List Str := ["state", "mirror", "free", "cards", "size"]
theorem sc_law_due : FnScope nm_law_due ["state", "mirror", "free"] (defScope s_law_due) :=
  ⟨rfl, rfl, rfl, by decide +kernel, rfl, by decide +kernel, by decide +kernel⟩
abbrev s_law_seen : Stmt := topS 44
abbrev nm_law_seen : List Str := ["one"]
theorem sc_law_seen : FnScope nm_law_seen ["one"] (defScope s_law_seen) :=
  ⟨rfl, rfl, rfl, by decide +kernel, rfl, by decide +kernel, by decide +kernel⟩
abbrev s_law_cards : Stmt := topS 45
abbrev nm_law_cards : List Str := ["source", "count", "most", "k"]
theorem sc_law_cards : FnScope nm_law_cards ["source", "count"] (defScope s_law_cards) :=
  ⟨rfl, rfl, rfl, by decide +kernel, rfl, by decide +kernel, by decide +kernel⟩
abbrev s_law_size : Stmt := topS 46
abbrev nm_law_size : List Str := ["source", "script", "size"]
theorem sc_law_size : FnScope nm_law_size ["source", "script"] (defScope s_law_size) :=
  ⟨rfl, rfl, rfl, by decide +kernel, rfl, by decide +kernel, by decide +kernel⟩
abbrev s_law_add : Stmt := topS 47
abbrev nm_law_add : List Str := ["one", "g"]
theorem sc_law_add : FnScope nm_law_add ["one", "g"] (defScope s_law_add) :=
  ⟨rfl, rfl, rfl, by decide +kernel, rfl, by decide +kernel, by decide +kernel⟩
abbrev s_law_deed : Stmt := topS 48
abbrev nm_law_deed : List Str := ["source", "state", "cards", "size", "many", "choice"]
theorem sc_law_deed : FnScope nm_law_deed ["source", "state"] (defScope s_law_deed) :=
  ⟨rfl, rfl, rfl, by decide +kernel, rfl, by decide +kernel, by decide +kernel⟩
abbrev s_law_after : Stmt := topS 49
abbrev nm_law_after : List Str := ["state", "deed", "cards", "size", "kind", "given", "spot", "rest"]
theorem sc_law_after : FnScope nm_law_after ["state", "deed"] (defScope s_law_after) :=
  ⟨rfl, rfl, rfl, by decide +kernel, rfl, by decide +kernel, by decide +kernel⟩
abbrev s_law_do : Stmt := topS 50
abbrev nm_law_do : List Str := ["one", "deed", "kind", "given"]
theorem sc_law_do : FnScope nm_law_do ["one", "deed"] (defScope s_law_do) :=
  ⟨rfl, rfl, rfl, by decide +kernel, rfl, by decide +kernel, by decide +kernel⟩
abbrev s_law_both : Stmt := topS 51
abbrev nm_law_both : List Str := ["one", "state", "deed", "mirror", "free", "after", "due", "expected"]
theorem sc_law_both : FnScope nm_law_both ["one", "state", "deed", "mirror", "free"] (defScope s_law_both) :=
  ⟨rfl, rfl, rfl, by decide +kernel, rfl, by decide +kernel, by decide +kernel⟩
abbrev s_law_undo_right : Stmt := topS 52
abbrev nm_law_undo_right : List Str := ["one", "all_states", "outcome"]
theorem sc_law_undo_right : FnScope nm_law_undo_right ["one", "all_states"] (defScope s_law_undo_right) :=
  ⟨rfl, rfl, rfl, by decide +kernel, rfl, by decide +kernel, by decide +kernel⟩
abbrev s_law_call_right : Stmt := topS 53
abbrev nm_law_call_right : List Str := ["source", "one", "all_states", "state", "deed", "way", "later"]
theorem sc_law_call_right : FnScope nm_law_call_right ["source", "one", "all_states"] (defScope s_law_call_right) :=
  ⟨rfl, rfl, rfl, by decide +kernel, rfl, by decide +kernel, by decide +kernel⟩
abbrev s_law_holds : Stmt := topS 54
abbrev nm_law_holds : List Str := ["source", "script", "size", "one", "all_states", "turn", "again"]
theorem sc_law_holds : FnScope nm_law_holds ["source", "script"] (defScope s_law_holds) :=
  ⟨rfl, rfl, rfl, by decide +kernel, rfl, by decide +kernel, by decide +kernel⟩
abbrev s_law : Stmt := topS 55
abbrev nm_law : List Str := ["script", "k", "cell"]
theorem sc_law : FnScope nm_law ["script"] (defScope s_law) :=
  ⟨rfl, rfl, rfl, by decide +kernel, rfl, by decide +kernel, by decide +kernel⟩
abbrev s_Wall_init : Stmt := inCls (topS 36) 1
abbrev nm_Wall_init : List Str := ["self", "columns"]
theorem sc_Wall_init : FnScope nm_Wall_init ["self", "columns"] (defScope s_Wall_init) :=
  ⟨rfl, rfl, rfl, by decide +kernel, rfl, by decide +kernel, by decide +kernel⟩
abbrev s_Wall_places : Stmt := inCls (topS 36) 3
abbrev nm_Wall_places : List Str := ["self", "cards", "places", "_", "height"]
theorem sc_Wall_places : FnScope nm_Wall_places ["self", "cards"] (defScope s_Wall_places) :=
  ⟨rfl, rfl, rfl, by decide +kernel, rfl, by decide +kernel, by decide +kernel⟩
abbrev s_Wall_bottoms : Stmt := inCls (topS 36) 4
abbrev nm_Wall_bottoms : List Str := ["self", "bottoms", "column", "top", "height"]
theorem sc_Wall_bottoms : FnScope nm_Wall_bottoms ["self"] (defScope s_Wall_bottoms) :=
  ⟨rfl, rfl, rfl, by decide +kernel, rfl, by decide +kernel, by decide +kernel⟩
abbrev s_Wall_check_room : Stmt := inCls (topS 36) 6
abbrev nm_Wall_check_room : List Str := ["self", "many"]
theorem sc_Wall_check_room : FnScope nm_Wall_check_room ["self", "many"] (defScope s_Wall_check_room) :=
  ⟨rfl, rfl, rfl, by decide +kernel, rfl, by decide +kernel, by decide +kernel⟩
abbrev s_Wall_change : Stmt := inCls (topS 36) 7
abbrev nm_Wall_change : List Str := ["self", "columns", "cards"]
theorem sc_Wall_change : FnScope nm_Wall_change ["self", "columns", "cards"] (defScope s_Wall_change) :=
  ⟨rfl, rfl, rfl, by decide +kernel, rfl, by decide +kernel, by decide +kernel⟩
abbrev s_Wall_put_in : Stmt := inCls (topS 36) 13
abbrev nm_Wall_put_in : List Str := ["self", "index", "height"]
theorem sc_Wall_put_in : FnScope nm_Wall_put_in ["self", "index", "height"] (defScope s_Wall_put_in) :=
  ⟨rfl, rfl, rfl, by decide +kernel, rfl, by decide +kernel, by decide +kernel⟩
abbrev s_Wall_take_out : Stmt := inCls (topS 36) 14
abbrev nm_Wall_take_out : List Str := ["self", "index"]
theorem sc_Wall_take_out : FnScope nm_Wall_take_out ["self", "index"] (defScope s_Wall_take_out) :=
  ⟨rfl, rfl, rfl, by decide +kernel, rfl, by decide +kernel, by decide +kernel⟩
abbrev s_Wall_shift : Stmt := inCls (topS 36) 15
abbrev nm_Wall_shift : List Str := ["self", "index", "place"]
theorem sc_Wall_shift : FnScope nm_Wall_shift ["self", "index", "place"] (defScope s_Wall_shift) :=
  ⟨rfl, rfl, rfl, by decide +kernel, rfl, by decide +kernel, by decide +kernel⟩
abbrev s_Wall_stretch : Stmt := inCls (topS 36) 16
abbrev nm_Wall_stretch : List Str := ["self", "index", "height"]
theorem sc_Wall_stretch : FnScope nm_Wall_stretch ["self", "index", "height"] (defScope s_Wall_stretch) :=
  ⟨rfl, rfl, rfl, by decide +kernel, rfl, by decide +kernel, by decide +kernel⟩
abbrev s_Wall_resize : Stmt := inCls (topS 36) 17
abbrev nm_Wall_resize : List Str := ["self", "columns"]
theorem sc_Wall_resize : FnScope nm_Wall_resize ["self", "columns"] (defScope s_Wall_resize) :=
  ⟨rfl, rfl, rfl, by decide +kernel, rfl, by decide +kernel, by decide +kernel⟩
abbrev s_Wall_undo : Stmt := inCls (topS 36) 18
abbrev nm_Wall_undo : List Str := ["self"]
theorem sc_Wall_undo : FnScope nm_Wall_undo ["self"] (defScope s_Wall_undo) :=
  ⟨rfl, rfl, rfl, by decide +kernel, rfl, by decide +kernel, by decide +kernel⟩
abbrev s_Wall_add : Stmt := inCls (topS 36) 10
abbrev nm_Wall_add : List Str := ["self", "heights", "columns"]
theorem sc_Wall_add : FnScope nm_Wall_add ["self", "heights"] (defScope s_Wall_add) :=
  ⟨rfl, rfl, rfl, by decide +kernel, rfl, by decide +kernel, by decide +kernel⟩
abbrev s_Wall_tried : Stmt := inCls (topS 36) 11
abbrev nm_Wall_tried : List Str := ["self", "heights", "height", "places", "column", "top"]
theorem sc_Wall_tried : FnScope nm_Wall_tried ["self", "heights"] (defScope s_Wall_tried) :=
  ⟨rfl, rfl, rfl, by decide +kernel, rfl, by decide +kernel, by decide +kernel⟩
abbrev s_Wall_len : Stmt := inCls (topS 36) 26
abbrev nm_Wall_len : List Str := ["self"]
theorem sc_Wall_len : FnScope nm_Wall_len ["self"] (defScope s_Wall_len) :=
  ⟨rfl, rfl, rfl, by decide +kernel, rfl, by decide +kernel, by decide +kernel⟩
abbrev s_Wall_heights : Stmt := inCls (topS 36) 20
abbrev nm_Wall_heights : List Str := ["self"]
theorem sc_Wall_heights : FnScope nm_Wall_heights ["self"] (defScope s_Wall_heights) :=
  ⟨rfl, rfl, rfl, by decide +kernel, rfl, by decide +kernel, by decide +kernel⟩
abbrev s_Wall_card_columns : Stmt := inCls (topS 36) 21
abbrev nm_Wall_card_columns : List Str := ["self", "column", "top"]
theorem sc_Wall_card_columns : FnScope nm_Wall_card_columns ["self"] (defScope s_Wall_card_columns) :=
  ⟨rfl, rfl, rfl, by decide +kernel, rfl, by decide +kernel, by decide +kernel⟩
abbrev s_Wall_tops : Stmt := inCls (topS 36) 22
abbrev nm_Wall_tops : List Str := ["self", "column", "top"]
theorem sc_Wall_tops : FnScope nm_Wall_tops ["self"] (defScope s_Wall_tops) :=
  ⟨rfl, rfl, rfl, by decide +kernel, rfl, by decide +kernel, by decide +kernel⟩
abbrev s_Wall_end : Stmt := inCls (topS 36) 23
abbrev nm_Wall_end : List Str := ["self"]
theorem sc_Wall_end : FnScope nm_Wall_end ["self"] (defScope s_Wall_end) :=
  ⟨rfl, rfl, rfl, by decide +kernel, rfl, by decide +kernel, by decide +kernel⟩
abbrev s_Wall_width : Stmt := inCls (topS 36) 24
abbrev nm_Wall_width : List Str := ["self"]
theorem sc_Wall_width : FnScope nm_Wall_width ["self"] (defScope s_Wall_width) :=
  ⟨rfl, rfl, rfl, by decide +kernel, rfl, by decide +kernel, by decide +kernel⟩
set_option maxHeartbeats 4000000 in
structure Txt (K : PySem.W.Frag) (mg : Str → Option Value) where
  a_LowcolumnsError : Addr
  a_InvalidHeightError : Addr
  a_InvalidIndexError : Addr
  a_InvalidColumnsError : Addr
  a_InvalidFormatError : Addr
  a_FullError : Addr
  a_EmptyHistoryError : Addr
  e_LowcolumnsError : ExT K mg "LowcolumnsError" a_LowcolumnsError [.ref a_LowcolumnsError, .type "ValueError", .type "Exception", .type "BaseException", .type "object"]
  e_InvalidHeightError : ExT K mg "InvalidHeightError" a_InvalidHeightError [.ref a_InvalidHeightError, .ref a_LowcolumnsError, .type "ValueError", .type "Exception", .type "BaseException", .type "object"]
  e_InvalidIndexError : ExT K mg "InvalidIndexError" a_InvalidIndexError [.ref a_InvalidIndexError, .ref a_LowcolumnsError, .type "ValueError", .type "Exception", .type "BaseException", .type "object"]
  e_InvalidColumnsError : ExT K mg "InvalidColumnsError" a_InvalidColumnsError [.ref a_InvalidColumnsError, .ref a_LowcolumnsError, .type "ValueError", .type "Exception", .type "BaseException", .type "object"]
  e_InvalidFormatError : ExT K mg "InvalidFormatError" a_InvalidFormatError [.ref a_InvalidFormatError, .ref a_LowcolumnsError, .type "ValueError", .type "Exception", .type "BaseException", .type "object"]
  e_FullError : ExT K mg "FullError" a_FullError [.ref a_FullError, .ref a_LowcolumnsError, .type "ValueError", .type "Exception", .type "BaseException", .type "object"]
  e_EmptyHistoryError : ExT K mg "EmptyHistoryError" a_EmptyHistoryError [.ref a_EmptyHistoryError, .ref a_LowcolumnsError, .type "ValueError", .type "Exception", .type "BaseException", .type "object"]
  nd_cls : [a_EmptyHistoryError, a_FullError, a_InvalidColumnsError, a_InvalidFormatError, a_InvalidHeightError, a_InvalidIndexError, a_LowcolumnsError].Nodup
  a_is_integer_within : Addr
  d_is_integer_within : FuncData
  F_is_integer_within : Fun K "is_integer_within" "is_integer_within" s_is_integer_within a_is_integer_within d_is_integer_within
  b_is_integer_within : Binds K d_is_integer_within ["value", "least", "greatest"] []
  g_is_integer_within : mg "is_integer_within" = some (.ref a_is_integer_within)
  a_is_one_height : Addr
  d_is_one_height : FuncData
  F_is_one_height : Fun K "is_one_height" "is_one_height" s_is_one_height a_is_one_height d_is_one_height
  b_is_one_height : Binds K d_is_one_height ["value"] []
  g_is_one_height : mg "is_one_height" = some (.ref a_is_one_height)
  a_check_columns : Addr
  d_check_columns : FuncData
  F_check_columns : Fun K "check_columns" "check_columns" s_check_columns a_check_columns d_check_columns
  b_check_columns : Binds K d_check_columns ["columns"] []
  g_check_columns : mg "check_columns" = some (.ref a_check_columns)
  a_check_height : Addr
  d_check_height : FuncData
  F_check_height : Fun K "check_height" "check_height" s_check_height a_check_height d_check_height
  b_check_height : Binds K d_check_height ["height"] []
  g_check_height : mg "check_height" = some (.ref a_check_height)
  a_check_index : Addr
  d_check_index : FuncData
  F_check_index : Fun K "check_index" "check_index" s_check_index a_check_index d_check_index
  b_check_index : Binds K d_check_index ["index", "many"] []
  g_check_index : mg "check_index" = some (.ref a_check_index)
  a_lowest_column : Addr
  d_lowest_column : FuncData
  F_lowest_column : Fun K "lowest_column" "lowest_column" s_lowest_column a_lowest_column d_lowest_column
  b_lowest_column : Binds K d_lowest_column ["columns", "right"] []
  g_lowest_column : mg "lowest_column" = some (.ref a_lowest_column)
  a_lay_cards : Addr
  d_lay_cards : FuncData
  F_lay_cards : Fun K "lay_cards" "lay_cards" s_lay_cards a_lay_cards d_lay_cards
  b_lay_cards : Binds K d_lay_cards ["start", "heights", "right"] []
  g_lay_cards : mg "lay_cards" = some (.ref a_lay_cards)
  a_with_item : Addr
  d_with_item : FuncData
  F_with_item : Fun K "with_item" "with_item" s_with_item a_with_item d_with_item
  b_with_item : Binds K d_with_item ["items", "index", "item"] []
  g_with_item : mg "with_item" = some (.ref a_with_item)
  a_without_item : Addr
  d_without_item : FuncData
  F_without_item : Fun K "without_item" "without_item" s_without_item a_without_item d_without_item
  b_without_item : Binds K d_without_item ["items", "index"] []
  g_without_item : mg "without_item" = some (.ref a_without_item)
  a_with_moved_item : Addr
  d_with_moved_item : FuncData
  F_with_moved_item : Fun K "with_moved_item" "with_moved_item" s_with_moved_item a_with_moved_item d_with_moved_item
  b_with_moved_item : Binds K d_with_moved_item ["items", "index", "place"] []
  g_with_moved_item : mg "with_moved_item" = some (.ref a_with_moved_item)
  a_with_other_item : Addr
  d_with_other_item : FuncData
  F_with_other_item : Fun K "with_other_item" "with_other_item" s_with_other_item a_with_other_item d_with_other_item
  b_with_other_item : Binds K d_with_other_item ["items", "index", "item"] []
  g_with_other_item : mg "with_other_item" = some (.ref a_with_other_item)
  a_law_source : Addr
  d_law_source : FuncData
  F_law_source : Fun K "_law_source" "_law_source" s_law_source a_law_source d_law_source
  b_law_source : Binds K d_law_source ["cell", "number"] []
  g_law_source : mg "_law_source" = some (.ref a_law_source)
  a_law_draw : Addr
  d_law_draw : FuncData
  F_law_draw : Fun K "_law_draw" "_law_draw" s_law_draw a_law_draw d_law_draw
  b_law_draw : Binds K d_law_draw ["source", "count"] []
  g_law_draw : mg "_law_draw" = some (.ref a_law_draw)
  a_law_cells : Addr
  d_law_cells : FuncData
  F_law_cells : Fun K "_law_cells" "_law_cells" s_law_cells a_law_cells d_law_cells
  b_law_cells : Binds K d_law_cells ["script", "count"] []
  g_law_cells : mg "_law_cells" = some (.ref a_law_cells)
  a_law_same : Addr
  d_law_same : FuncData
  F_law_same : Fun K "_law_same" "_law_same" s_law_same a_law_same d_law_same
  b_law_same : Binds K d_law_same ["found", "expected"] []
  g_law_same : mg "_law_same" = some (.ref a_law_same)
  a_law_laid : Addr
  d_law_laid : FuncData
  F_law_laid : Fun K "_law_laid" "_law_laid" s_law_laid a_law_laid d_law_laid
  b_law_laid : Binds K d_law_laid ["cards", "size", "mirror", "free"] []
  g_law_laid : mg "_law_laid" = some (.ref a_law_laid)
  a_law_due : Addr
  d_law_due : FuncData
  F_law_due : Fun K "_law_due" "_law_due" s_law_due a_law_due d_law_due
  b_law_due : Binds K d_law_due ["state", "mirror", "free"] []
  g_law_due : mg "_law_due" = some (.ref a_law_due)
  a_law_seen : Addr
  d_law_seen : FuncData
  F_law_seen : Fun K "_law_seen" "_law_seen" s_law_seen a_law_seen d_law_seen
  b_law_seen : Binds K d_law_seen ["one"] []
  g_law_seen : mg "_law_seen" = some (.ref a_law_seen)
  a_law_cards : Addr
  d_law_cards : FuncData
  F_law_cards : Fun K "_law_cards" "_law_cards" s_law_cards a_law_cards d_law_cards
  b_law_cards : Binds K d_law_cards ["source", "count"] []
  g_law_cards : mg "_law_cards" = some (.ref a_law_cards)
  a_law_size : Addr
  d_law_size : FuncData
  F_law_size : Fun K "_law_size" "_law_size" s_law_size a_law_size d_law_size
  b_law_size : Binds K d_law_size ["source", "script"] []
  g_law_size : mg "_law_size" = some (.ref a_law_size)
  a_law_add : Addr
  d_law_add : FuncData
  F_law_add : Fun K "_law_add" "_law_add" s_law_add a_law_add d_law_add
  b_law_add : Binds K d_law_add ["one", "g"] []
  g_law_add : mg "_law_add" = some (.ref a_law_add)
  a_law_deed : Addr
  d_law_deed : FuncData
  F_law_deed : Fun K "_law_deed" "_law_deed" s_law_deed a_law_deed d_law_deed
  b_law_deed : Binds K d_law_deed ["source", "state"] []
  g_law_deed : mg "_law_deed" = some (.ref a_law_deed)
  a_law_after : Addr
  d_law_after : FuncData
  F_law_after : Fun K "_law_after" "_law_after" s_law_after a_law_after d_law_after
  b_law_after : Binds K d_law_after ["state", "deed"] []
  g_law_after : mg "_law_after" = some (.ref a_law_after)
  a_law_do : Addr
  d_law_do : FuncData
  F_law_do : Fun K "_law_do" "_law_do" s_law_do a_law_do d_law_do
  b_law_do : Binds K d_law_do ["one", "deed"] []
  g_law_do : mg "_law_do" = some (.ref a_law_do)
  a_law_both : Addr
  d_law_both : FuncData
  F_law_both : Fun K "_law_both" "_law_both" s_law_both a_law_both d_law_both
  b_law_both : Binds K d_law_both ["one", "state", "deed", "mirror", "free"] []
  g_law_both : mg "_law_both" = some (.ref a_law_both)
  a_law_undo_right : Addr
  d_law_undo_right : FuncData
  F_law_undo_right : Fun K "_law_undo_right" "_law_undo_right" s_law_undo_right a_law_undo_right d_law_undo_right
  b_law_undo_right : Binds K d_law_undo_right ["one", "all_states"] []
  g_law_undo_right : mg "_law_undo_right" = some (.ref a_law_undo_right)
  a_law_call_right : Addr
  d_law_call_right : FuncData
  F_law_call_right : Fun K "_law_call_right" "_law_call_right" s_law_call_right a_law_call_right d_law_call_right
  b_law_call_right : Binds K d_law_call_right ["source", "one", "all_states"] []
  g_law_call_right : mg "_law_call_right" = some (.ref a_law_call_right)
  a_law_holds : Addr
  d_law_holds : FuncData
  F_law_holds : Fun K "_law_holds" "_law_holds" s_law_holds a_law_holds d_law_holds
  b_law_holds : Binds K d_law_holds ["source", "script"] []
  g_law_holds : mg "_law_holds" = some (.ref a_law_holds)
  a_law : Addr
  d_law : FuncData
  F_law : Fun K "law" "law" s_law a_law d_law
  b_law : Binds K d_law ["script"] []
  g_law : mg "law" = some (.ref a_law)
  z_isinstance : mg "isinstance" = none
  z_bool : mg "bool" = none
  z_int : mg "int" = none
  z_min : mg "min" = none
  z_len : mg "len" = none
  z_list : mg "list" = none
  z_max : mg "max" = none
  z_tuple : mg "tuple" = none
  z_all : mg "all" = none
  z_zip : mg "zip" = none
  z_range : mg "range" = none
  z_enumerate : mg "enumerate" = none
  t_MOST_HEIGHT : Tok
  c_MOST_HEIGHT : mg "MOST_HEIGHT" = some (.int (1000000000000000000000000000000) t_MOST_HEIGHT)
  t_MOST_COLUMNS : Tok
  c_MOST_COLUMNS : mg "MOST_COLUMNS" = some (.int (30) t_MOST_COLUMNS)
  C_Wall : Addr
  gc_Wall : mg "Wall" = some (.ref C_Wall)
  cl_Wall : Cls K C_Wall
  rd_Wall : ClX.CRead K C_Wall (.type "type")
  fi_Wall : Addr
  di_Wall : FuncData
  mk_Wall : Mk K C_Wall fi_Wall
  cv_Wall_MOST : ∃ t, ClX.CVal K C_Wall (.type "type") "MOST" (.int 200) (.int 200 t)
  Fi_Wall : Fun K "__init__" "Wall.__init__" s_Wall_init fi_Wall di_Wall
  bi_Wall : Binds K di_Wall ["self", "columns"] []
  a_Wall_places : Addr
  d_Wall_places : FuncData
  F_Wall_places : Fun K "_places" "Wall._places" s_Wall_places a_Wall_places d_Wall_places
  me_Wall_places : Meth K C_Wall "_places" a_Wall_places
  b_Wall_places : Binds K d_Wall_places ["self", "cards"] []
  a_Wall_bottoms : Addr
  d_Wall_bottoms : FuncData
  F_Wall_bottoms : Fun K "_bottoms" "Wall._bottoms" s_Wall_bottoms a_Wall_bottoms d_Wall_bottoms
  me_Wall_bottoms : Meth K C_Wall "_bottoms" a_Wall_bottoms
  b_Wall_bottoms : Binds K d_Wall_bottoms ["self"] []
  a_Wall_check_room : Addr
  d_Wall_check_room : FuncData
  F_Wall_check_room : Fun K "_check_room" "Wall._check_room" s_Wall_check_room a_Wall_check_room d_Wall_check_room
  me_Wall_check_room : Meth K C_Wall "_check_room" a_Wall_check_room
  b_Wall_check_room : Binds K d_Wall_check_room ["self", "many"] []
  a_Wall_change : Addr
  d_Wall_change : FuncData
  F_Wall_change : Fun K "_change" "Wall._change" s_Wall_change a_Wall_change d_Wall_change
  me_Wall_change : Meth K C_Wall "_change" a_Wall_change
  b_Wall_change : Binds K d_Wall_change ["self", "columns", "cards"] []
  a_Wall_put_in : Addr
  d_Wall_put_in : FuncData
  F_Wall_put_in : Fun K "put_in" "Wall.put_in" s_Wall_put_in a_Wall_put_in d_Wall_put_in
  me_Wall_put_in : Meth K C_Wall "put_in" a_Wall_put_in
  b_Wall_put_in : Binds K d_Wall_put_in ["self", "index", "height"] []
  a_Wall_take_out : Addr
  d_Wall_take_out : FuncData
  F_Wall_take_out : Fun K "take_out" "Wall.take_out" s_Wall_take_out a_Wall_take_out d_Wall_take_out
  me_Wall_take_out : Meth K C_Wall "take_out" a_Wall_take_out
  b_Wall_take_out : Binds K d_Wall_take_out ["self", "index"] []
  a_Wall_shift : Addr
  d_Wall_shift : FuncData
  F_Wall_shift : Fun K "shift" "Wall.shift" s_Wall_shift a_Wall_shift d_Wall_shift
  me_Wall_shift : Meth K C_Wall "shift" a_Wall_shift
  b_Wall_shift : Binds K d_Wall_shift ["self", "index", "place"] []
  a_Wall_stretch : Addr
  d_Wall_stretch : FuncData
  F_Wall_stretch : Fun K "stretch" "Wall.stretch" s_Wall_stretch a_Wall_stretch d_Wall_stretch
  me_Wall_stretch : Meth K C_Wall "stretch" a_Wall_stretch
  b_Wall_stretch : Binds K d_Wall_stretch ["self", "index", "height"] []
  a_Wall_resize : Addr
  d_Wall_resize : FuncData
  F_Wall_resize : Fun K "resize" "Wall.resize" s_Wall_resize a_Wall_resize d_Wall_resize
  me_Wall_resize : Meth K C_Wall "resize" a_Wall_resize
  b_Wall_resize : Binds K d_Wall_resize ["self", "columns"] []
  a_Wall_undo : Addr
  d_Wall_undo : FuncData
  F_Wall_undo : Fun K "undo" "Wall.undo" s_Wall_undo a_Wall_undo d_Wall_undo
  me_Wall_undo : Meth K C_Wall "undo" a_Wall_undo
  b_Wall_undo : Binds K d_Wall_undo ["self"] []
  a_Wall_add : Addr
  d_Wall_add : FuncData
  F_Wall_add : Fun K "add" "Wall.add" s_Wall_add a_Wall_add d_Wall_add
  me_Wall_add : Meth K C_Wall "add" a_Wall_add
  bm_Wall_add : BMeth K C_Wall "add" a_Wall_add
  a_Wall_tried : Addr
  d_Wall_tried : FuncData
  F_Wall_tried : Fun K "tried" "Wall.tried" s_Wall_tried a_Wall_tried d_Wall_tried
  me_Wall_tried : Meth K C_Wall "tried" a_Wall_tried
  bm_Wall_tried : BMeth K C_Wall "tried" a_Wall_tried
  a_Wall_len : Addr
  d_Wall_len : FuncData
  F_Wall_len : Fun K "__len__" "Wall.__len__" s_Wall_len a_Wall_len d_Wall_len
  me_Wall_len : Meth K C_Wall "__len__" a_Wall_len
  b_Wall_len : Binds K d_Wall_len ["self"] []
  q_Wall_heights : Addr
  w_Wall_heights : Addr
  dheights_Wall : FuncData
  pheights_Wall : PropOf K C_Wall "heights" q_Wall_heights w_Wall_heights
  Fheights_Wall : Fun K "heights" "Wall.heights" s_Wall_heights w_Wall_heights dheights_Wall
  bheights_Wall : Binds K dheights_Wall ["self"] []
  q_Wall_card_columns : Addr
  w_Wall_card_columns : Addr
  dcard_columns_Wall : FuncData
  pcard_columns_Wall : PropOf K C_Wall "card_columns" q_Wall_card_columns w_Wall_card_columns
  Fcard_columns_Wall : Fun K "card_columns" "Wall.card_columns" s_Wall_card_columns w_Wall_card_columns dcard_columns_Wall
  bcard_columns_Wall : Binds K dcard_columns_Wall ["self"] []
  q_Wall_tops : Addr
  w_Wall_tops : Addr
  dtops_Wall : FuncData
  ptops_Wall : PropOf K C_Wall "tops" q_Wall_tops w_Wall_tops
  Ftops_Wall : Fun K "tops" "Wall.tops" s_Wall_tops w_Wall_tops dtops_Wall
  btops_Wall : Binds K dtops_Wall ["self"] []
  q_Wall_end : Addr
  w_Wall_end : Addr
  dend_Wall : FuncData
  pend_Wall : PropOf K C_Wall "end" q_Wall_end w_Wall_end
  Fend_Wall : Fun K "end" "Wall.end" s_Wall_end w_Wall_end dend_Wall
  bend_Wall : Binds K dend_Wall ["self"] []
  q_Wall_width : Addr
  w_Wall_width : Addr
  dwidth_Wall : FuncData
  pwidth_Wall : PropOf K C_Wall "width" q_Wall_width w_Wall_width
  Fwidth_Wall : Fun K "width" "Wall.width" s_Wall_width w_Wall_width dwidth_Wall
  bwidth_Wall : Binds K dwidth_Wall ["self"] []
  na_columns_Wall : NoAttr K C_Wall "_columns"
  na_right_Wall : NoAttr K C_Wall "_right"
  na_gap_Wall : NoAttr K C_Wall "_gap"
  na_cards_Wall : NoAttr K C_Wall "_cards"
  na_calls_Wall : NoAttr K C_Wall "_calls"
section
variable {P : Program} {w : World} {K : PySem.W.Frag} {mg : Str → Option Value} {base : Heap}
/-- what a wall holds -/
def wlF (n : Int) (r : Bool) (g : Int) (l1 l2 : Addr) : List (Str × V) := [("_columns", .int n), ("_right", .bl r), ("_gap", .int g), ("_cards", .ref l1), ("_calls", .ref l2)]
/-- a wall of the class at C, its cards in the list l1, its calls in l2 -/
structure Wl (H : Hp) (x C dx l1 l2 : Addr) (n : Int) (r : Bool) (g : Int) (hs : List Int) (cs : List V) : Prop where
  ob : H x = some (.ins C dx (wlF n r g l1 l2))
  c1 : H l1 = some (.lst (hs.map V.int))
  c2 : H l2 = some (.lst cs)
  few : hs.length ≤ 200
  ne : l1 ≠ l2
theorem Wl.same {H H' : Hp} {x C dx l1 l2 : Addr} {n : Int} {r : Bool} {g : Int} {hs : List Int} {cs : List V} (h : Wl H x C dx l1 l2 n r g hs cs) (s : Same H H') : Wl H' x C dx l1 l2 n r g hs cs := ⟨s _ _ h.ob, s _ _ h.c1, s _ _ h.c2, h.few, h.ne⟩
def spHts (C : Addr) : Sp := fun vs H Q _ => ∃ (x dx l1 l2 : Addr) (n : Int) (r : Bool) (g : Int) (hs : List Int) (cs : List V), vs = [.ref x] ∧ Wl H x C dx l1 l2 n r g hs cs ∧ ∀ p, H p = none → Q (.ref p) (L2.upd H p (.lst (hs.map V.int)))
theorem ok_Wall_heights (T : Txt K mg) : FnOk P w K mg base CX0 1 T.w_Wall_heights T.dheights_Wall ["self"] (spHts T.C_Wall) := by
  refine T.Fheights_Wall.ok sc_Wall_heights (fun vs H Q E h => ?_) (fun cdv A outer s H vs Q E hr h => ?_)
  · obtain ⟨x, dx, l1, l2, n, r, g, hs, cs, rfl, _⟩ := h; rfl
  · obtain ⟨x, dx, l1, l2, n, r, g, hs, cs, rfl, wl, q⟩ := h
    refine ⟨_, (pss_one (ps_ret (pe_callTy call_list_of (by rfl) T.z_list (by decide +kernel) (pa_cons (pe_fldA (pv 0)) pa_nil)))), ?_⟩
    refine ⟨.ref x, rfl, x, T.C_Wall, dx, _, .ref l1, rfl, wl.ob, T.cl_Wall, T.na_cards_Wall, rfl, l1, _, rfl, .inl (SqL.of wl.c1), q⟩
def spWid (C : Addr) : Sp := fun vs H Q _ => ∃ (x dx l1 l2 : Addr) (n : Int) (r : Bool) (g : Int) (hs : List Int) (cs : List V), vs = [.ref x] ∧ Wl H x C dx l1 l2 n r g hs cs ∧ Q (.int n) H
theorem ok_Wall_width (T : Txt K mg) : FnOk P w K mg base CX0 1 T.w_Wall_width T.dwidth_Wall ["self"] (spWid T.C_Wall) := by
  refine T.Fwidth_Wall.ok sc_Wall_width (fun vs H Q E h => ?_) (fun cdv A outer s H vs Q E hr h => ?_)
  · obtain ⟨x, dx, l1, l2, n, r, g, hs, cs, rfl, _⟩ := h; rfl
  · obtain ⟨x, dx, l1, l2, n, r, g, hs, cs, rfl, wl, q⟩ := h
    refine ⟨_, (pss_one (ps_ret (pe_fldA (pv 0)))), ?_⟩
    exact ⟨.ref x, rfl, x, T.C_Wall, dx, _, .int n, rfl, wl.ob, T.cl_Wall, T.na_columns_Wall, rfl, q⟩
def spLen (C : Addr) : Sp := fun vs H Q _ => ∃ (x dx l1 l2 : Addr) (n : Int) (r : Bool) (g : Int) (hs : List Int) (cs : List V), vs = [.ref x] ∧ Wl H x C dx l1 l2 n r g hs cs ∧ Q (.int hs.length) H
theorem ok_Wall_len (T : Txt K mg) : FnOk P w K mg base CX0 1 T.a_Wall_len T.d_Wall_len ["self"] (spLen T.C_Wall) := by
  refine T.F_Wall_len.ok sc_Wall_len (fun vs H Q E h => ?_) (fun cdv A outer s H vs Q E hr h => ?_)
  · obtain ⟨x, dx, l1, l2, n, r, g, hs, cs, rfl, _⟩ := h; rfl
  · obtain ⟨x, dx, l1, l2, n, r, g, hs, cs, rfl, wl, q⟩ := h
    refine ⟨_, (pss_one (ps_ret (pe_callB call_len_seq (by rfl) T.z_len (by decide +kernel) (pa_cons (pe_fldA (pv 0)) pa_nil)))), ?_⟩
    refine ⟨.ref x, rfl, x, T.C_Wall, dx, _, .ref l1, rfl, wl.ob, T.cl_Wall, T.na_cards_Wall, rfl, l1, _, rfl, .inl (SqL.of wl.c1), ?_⟩
    rw [List.length_map]
    exact q
/-- the columns and cards that undo brings back -/
def spChg (C : Addr) : Sp := fun vs H Q _ => ∃ (x dx l1 l2 m1 : Addr) (n m : Int) (r : Bool) (g : Int) (hs ks : List Int) (cs : List V), vs = [.ref x, .int m, .ref m1] ∧ Wl H x C dx l1 l2 n r g hs cs ∧ cs.length < 1000 ∧ H m1 = some (.lst (ks.map V.int)) ∧ ks.length ≤ 200 ∧ x ≠ l2 ∧ l1 ≠ l2 ∧ m1 ≠ l2 ∧
  ∀ t H', H t = none → (∀ c o, c ≠ x → c ≠ l2 → H c = some o → H' c = some o) → H' t = some (.tup [.int n, .ref l1]) → Wl H' x C dx m1 l2 m r g ks (cs ++ [.ref t]) → Q .non H'
theorem ok_Wall_change (T : Txt K mg) : FnOk P w K mg base CX0 1 T.a_Wall_change T.d_Wall_change ["self", "columns", "cards"] (spChg T.C_Wall) := by
  refine T.F_Wall_change.ok sc_Wall_change (fun vs H Q E h => ?_) (fun cdv A outer s H vs Q E hr h => ?_)
  · obtain ⟨x, dx, l1, l2, m1, n, m, r, g, hs, ks, cs, rfl, _⟩ := h; rfl
  · obtain ⟨x, dx, l1, l2, m1, n, m, r, g, hs, ks, cs, rfl, wl, hc, em, hk, n1, n2, n3, q⟩ := h
    refine ⟨_, (pss_cons (ps_expr (pe_bm PySem.F.plainAttrs_list PySem.F.slot_list_append PySem.F.type_list_append mt_append (pe_fldA (pv 0)) (pa_cons (pe_tup (pa_cons (pe_fldA (pv 0)) (pa_cons (pe_fldA (pv 0)) pa_nil))) pa_nil)))
  (pss_cons (ps_fld (pv 0) (pv 1) (by rfl))
  (pss_one (ps_fld (pv 0) (pv 2) (by rfl))))), ?_⟩
    refine ⟨.ref x, rfl, x, T.C_Wall, dx, _, .ref l2, rfl, wl.ob, T.cl_Wall, T.na_calls_Wall, rfl, .inl ⟨rfl, _, SqL.of wl.c2⟩, .ref x, rfl, x, T.C_Wall, dx, _, .int n, rfl, wl.ob, T.cl_Wall, T.na_columns_Wall, rfl, .ref x, rfl, x, T.C_Wall, dx, _, .ref l1, rfl, wl.ob, T.cl_Wall, T.na_cards_Wall, rfl, (by show 2 ≤ sizeLine; decide), fun t nt => ?_⟩
    have st := same_new (H := H) (p := t) (.tup [.int n, .ref l1]) nt
    have et : (L2.upd H t (.tup [.int n, .ref l1])) t = some (.tup [.int n, .ref l1]) := upd_same
    have wt := wl.same st
    have tx : t ≠ x := fun z => by rw [z, wl.ob] at nt; cases nt
    have tl : t ≠ l2 := fun z => by rw [z, wl.c2] at nt; cases nt
    generalize L2.upd H t _ = H1 at st et wt ⊢
    refine ⟨l2, cs, .ref t, rfl, rfl, wt.c2, small_of (m := 1000) (by omega) (by decide), ?_⟩
    have b2 : ∀ c o, c ≠ x → c ≠ l2 → H c = some o → (L2.upd H1 l2 (.lst (cs ++ [.ref t]))) c = some o := fun c o _ h2 e => by rw [upd_ne h2]; exact st _ _ e
    have ex : (L2.upd H1 l2 (.lst (cs ++ [.ref t]))) x = some (.ins T.C_Wall dx (wlF n r g l1 l2)) := by rw [upd_ne n1]; exact wt.ob
    have e2 : (L2.upd H1 l2 (.lst (cs ++ [.ref t]))) l2 = some (.lst (cs ++ [.ref t])) := upd_same
    have em2 : (L2.upd H1 l2 (.lst (cs ++ [.ref t]))) m1 = some (.lst (ks.map V.int)) := by rw [upd_ne n3]; exact st _ _ em
    have et2 : (L2.upd H1 l2 (.lst (cs ++ [.ref t]))) t = some (.tup [.int n, .ref l1]) := by rw [upd_ne tl]; exact et
    generalize L2.upd H1 l2 _ = H2 at b2 ex e2 em2 et2 ⊢
    have xm : m1 ≠ x := fun z => by rw [z, wl.ob] at em; cases em
    refine ⟨.int m, rfl, .ref x, rfl, x, T.C_Wall, dx, _, rfl, ex, T.cl_Wall, T.na_columns_Wall, (by simp [wlF]), ?_⟩
    have b3 : ∀ c o, c ≠ x → c ≠ l2 → H c = some o → (L2.upd H2 x (.ins T.C_Wall dx (putF "_columns" (.int m) (wlF n r g l1 l2)))) c = some o := fun c o h1 h2 e => by rw [upd_ne h1]; exact b2 c o h1 h2 e
    have ex3 : (L2.upd H2 x (.ins T.C_Wall dx (putF "_columns" (.int m) (wlF n r g l1 l2)))) x = some (.ins T.C_Wall dx (wlF m r g l1 l2)) := upd_same
    have e23 : (L2.upd H2 x (.ins T.C_Wall dx (putF "_columns" (.int m) (wlF n r g l1 l2)))) l2 = some (.lst (cs ++ [.ref t])) := by rw [upd_ne n1.symm]; exact e2
    have em3 : (L2.upd H2 x (.ins T.C_Wall dx (putF "_columns" (.int m) (wlF n r g l1 l2)))) m1 = some (.lst (ks.map V.int)) := by rw [upd_ne xm]; exact em2
    have et3 : (L2.upd H2 x (.ins T.C_Wall dx (putF "_columns" (.int m) (wlF n r g l1 l2)))) t = some (.tup [.int n, .ref l1]) := by rw [upd_ne tx]; exact et2
    generalize L2.upd H2 x _ = H3 at b3 ex3 e23 em3 et3 ⊢
    refine ⟨.ref m1, rfl, .ref x, rfl, x, T.C_Wall, dx, _, rfl, ex3, T.cl_Wall, T.na_cards_Wall, (by simp [wlF]), ?_⟩
    exact q t _ nt (fun c o h1 h2 e => by rw [upd_ne h1]; exact b3 c o h1 h2 e) (by rw [upd_ne tx]; exact et3) ⟨upd_same, by rw [upd_ne xm]; exact em3, by rw [upd_ne n1.symm]; exact e23, hk, n3⟩
end

section
variable {P : Program} {w : World} {K : PySem.W.Frag} {mg : Str → Option Value} {base : Heap}
def spLow (K : PySem.W.Frag) : Sp := fun vs H Q _ => ∃ (a : Addr) (r : Bool) (cs : List Int), vs = [.ref a, .bl r] ∧ SqL K H a (cs.map V.int) ∧ cs ≠ [] ∧ ∀ H', Same H H' → Q (.int (low r cs : Nat)) H'
theorem eqV_ne {x y : Int} (h : x ≠ y) : eqV (.int x) (.int y) = false := by
  show (x == y) = false
  exact beq_false_of_ne h
theorem flats (ns : List Int) : (ns.map V.int).all flatV = true := by
  rw [List.all_map]
  exact List.all_eq_true.mpr fun _ _ => rfl
theorem ok_lowest_column (T : Txt K mg) : FnOk P w K mg base CX0 1 T.a_lowest_column T.d_lowest_column ["columns", "right"] (spLow K) := by
  refine T.F_lowest_column.ok sc_lowest_column (fun vs H Q E h => ?_) (fun cdv A outer s H vs Q E hr h => ?_)
  · obtain ⟨a, r, cs, rfl, _⟩ := h; rfl
  · obtain ⟨a, r, cs, rfl, hS, hne, q⟩ := h
    refine ⟨_, (pss_cons (ps_set (i := 2) sc_lowest_column.nd rfl (.inl rfl) (pe_callB (cr_min rfl) (by rfl) T.z_min (by decide +kernel) (pa_cons (pv 0) pa_nil)))
  (pss_cons (ps_if (pt_val (pv 1))
  (pss_one (ps_ret (pe_op op_sub (pe_op op_sub (pe_callB call_len_seq (by rfl) T.z_len (by decide +kernel) (pa_cons (pv 0) pa_nil)) pe_int) (pe_bm PySem.F.plainAttrs_list PySem.F.slot_list_index PySem.F.type_list_index mt_index (pe_revL (pv 0)) (pa_cons (pv 2) pa_nil)))))
  pss_nil)
  (pss_one (ps_ret (pe_bm PySem.F.plainAttrs_list PySem.F.slot_list_index PySem.F.type_list_index mt_index (pv 0) (pa_cons (pv 2) pa_nil)))))), ?_⟩
    have hpos : 0 < cs.length := List.length_pos_iff.mpr hne
    refine ⟨.ref a, rfl, a, cs, rfl, hS, hpos, fun m hm hle => ?_⟩
    have em : m = mn cs := (mn_eq hm hle).symm
    subst em
    refine ⟨.bl r, rfl, r, rfl, ?_⟩
    cases r with
    | true =>
      have hm2 : mn cs ∈ cs.reverse := List.mem_reverse.mpr hm
      have il : ix (mn cs) cs.reverse < cs.length := by
        have := get_lt (ix_get hm2)
        rwa [List.length_reverse] at this
      refine ⟨.ref a, rfl, a, _, rfl, .inl hS, _, 1, rfl, rfl, .ref a, rfl, a, _, rfl, hS, fun p np => ?_⟩
      have sm : Same H (upd H p (.lst (cs.map V.int).reverse)) := same_new _ np
      have er : (cs.map V.int).reverse = cs.reverse.map V.int := List.map_reverse.symm
      refine ⟨.inl ⟨rfl, _, SqL.of upd_same⟩, .int (mn cs), rfl, p, _, .int (mn cs), ix (mn cs) cs.reverse, .int (mn cs), rfl, rfl, SqL.of upd_same, rfl, ?_, ?_, ?_, ?_, ?_⟩
      · rw [er]; exact flats _
      · rw [er, List.getElem?_map, ix_get hm2]; rfl
      · show (mn cs == mn cs) = true
        exact beq_self_eq_true _
      · intro k z hk hz
        rw [er] at hz
        obtain ⟨n, en, rfl⟩ := get_map hz
        exact eqV_ne (ix_first hk en)
      · refine ⟨_, _, rfl, rfl, ?_⟩
        have := q _ sm
        have e : (((low true cs : Nat)) : Int) = (((cs.map V.int).length : Nat) : Int) - 1 - ((ix (mn cs) cs.reverse : Nat) : Int) := by
          show (((if true = true then cs.length - 1 - ix (mn cs) cs.reverse else ix (mn cs) cs : Nat)) : Int) = _
          rw [if_pos rfl, List.length_map]
          omega
        rw [e] at this
        exact this
    | false =>
      refine ⟨.ref a, rfl, .inl ⟨rfl, _, hS⟩, .int (mn cs), rfl, a, _, .int (mn cs), ix (mn cs) cs, .int (mn cs), rfl, rfl, hS, rfl, flats _, ?_, ?_, ?_, q H (Same.refl H)⟩
      · rw [List.getElem?_map, ix_get hm]; rfl
      · show (mn cs == mn cs) = true
        exact beq_self_eq_true _
      · intro k z hk hz
        obtain ⟨n, en, rfl⟩ := get_map hz
        exact eqV_ne (ix_first hk en)
/-- a list of tuples (column, top) -/
def Prs (H : Hp) (l : List V) (ps : List (Nat × Int)) : Prop := l.length = ps.length ∧ ∀ (i : Nat) (v : V) (p : Nat × Int), l[i]? = some v → ps[i]? = some p → ∃ q, v = .ref q ∧ H q = some (.tup [.int p.1, .int p.2])
theorem Prs.same {H H' : Hp} {l : List V} {ps : List (Nat × Int)} (h : Prs H l ps) (s : Same H H') : Prs H' l ps := ⟨h.1, fun i v p e1 e2 => by
  obtain ⟨q, e, hq⟩ := h.2 i v p e1 e2
  exact ⟨q, e, s _ _ hq⟩⟩
theorem Prs.but {H H' : Hp} {a : Addr} {l : List V} {ps : List (Nat × Int)} (h : Prs H l ps) (n : ∀ xs, H a ≠ some (.tup xs)) (s : But a H H') : Prs H' l ps := ⟨h.1, fun i v p e1 e2 => by
  obtain ⟨q, e, hq⟩ := h.2 i v p e1 e2
  exact ⟨q, e, s _ _ (fun z => n _ (z ▸ hq)) hq⟩⟩
theorem Prs.snoc {H : Hp} {l : List V} {ps : List (Nat × Int)} {q : Addr} {p : Nat × Int} (h : Prs H l ps) (hq : H q = some (.tup [.int p.1, .int p.2])) : Prs H (l ++ [.ref q]) (ps ++ [p]) := by
  refine ⟨by rw [List.length_append, List.length_append, h.1]; rfl, fun i v p' e1 e2 => ?_⟩
  by_cases hi : i < l.length
  · rw [List.getElem?_append_left hi] at e1
    rw [List.getElem?_append_left (by rw [← h.1]; exact hi)] at e2
    exact h.2 i v p' e1 e2
  · rw [List.getElem?_append_right (by omega)] at e1
    rw [List.getElem?_append_right (by rw [← h.1]; omega), ← h.1] at e2
    cases hk : i - l.length with
    | zero =>
      rw [hk] at e1 e2
      cases e1
      cases e2
      exact ⟨q, rfl, hq⟩
    | succ k => rw [hk] at e1; cases e1
def spLay (K : PySem.W.Frag) : Sp := fun vs H Q _ => ∃ (a b : Addr) (r : Bool) (cs hs : List Int), vs = [.ref a, .ref b, .bl r] ∧ SqL K H a (cs.map V.int) ∧ SqL K H b (hs.map V.int) ∧ cs ≠ [] ∧ hs.length ≤ 90000 ∧ cs.length ≤ 90000 ∧
  ∀ H' t p c l, Same H H' → H t = none → H p = none → H c = none → H' t = some (.tup [.ref p, .ref c]) → H' p = some (.lst l) → Prs H' l (play r cs hs).1 → H' c = some (.lst ((play r cs hs).2.map V.int)) → Q (.ref t) H'
theorem ok_lay_cards (T : Txt K mg) : FnOk P w K mg base CX0 2 T.a_lay_cards T.d_lay_cards ["start", "heights", "right"] (spLay K) := by
  refine T.F_lay_cards.ok sc_lay_cards (fun vs H Q E h => ?_) (fun cdv A outer s H vs Q E hr h => ?_)
  · obtain ⟨a, b, r, cs, hs, rfl, _⟩ := h; rfl
  · obtain ⟨a, b, r, cs, hs, rfl, hA, hB, hne, hl1, hl2, q⟩ := h
    refine ⟨_, (pss_cons (ps_set (i := 3) sc_lay_cards.nd rfl (.inl rfl) (pe_callTy call_list_of (by rfl) T.z_list (by decide +kernel) (pa_cons (pv 0) pa_nil)))
  (pss_cons (ps_set (i := 4) sc_lay_cards.nd rfl (.inl rfl) (pe_lst pa_nil))
  (pss_cons (ps_for PassesOwn.never rfl (pi_list (pv 1)) (pg_name (i := 5) sc_lay_cards.nd rfl (.inl rfl))
  (pss_cons (ps_set (i := 6) sc_lay_cards.nd rfl (.inl rfl) (pe_call (ok_lowest_column T) hr (by rfl) T.g_lowest_column T.F_lowest_column.kp T.b_lowest_column .nil pass0 (pa_cons (pv 3) (pa_cons (pv 2) pa_nil))))
  (pss_cons (ps_set (i := 7) sc_lay_cards.nd rfl (.inl rfl) (pe_ix ix_list (pv 3) (pv 6) (fun _ _ => rfl)))
  (pss_cons (ps_expr (pe_bm PySem.F.plainAttrs_list PySem.F.slot_list_append PySem.F.type_list_append mt_append (pv 4) (pa_cons (pe_tup (pa_cons (pv 6) (pa_cons (pv 7) pa_nil))) pa_nil)))
  (pss_one (ps_asg (pe_op op_add (pv 7) (pv 5)) (pg_sub (pv 3) (pv 6) set_list)))))))
  (pss_one (ps_ret (pe_tup (pa_cons (pv 4) (pa_cons (pv 3) pa_nil)))))))), ?_⟩
    refine ⟨.ref a, rfl, a, _, rfl, .inl hA, fun c nc => ?_⟩
    have s1 : Same H (upd H c (.lst (cs.map V.int))) := same_new _ nc
    refine ⟨Nat.zero_le _, fun p np => ?_⟩
    have s2 : Same H (upd (upd H c (.lst (cs.map V.int))) p (.lst [])) := same_lay s1 np
    have npc : p ≠ c := fun e => by rw [e, upd_same] at np; cases np
    have nH : H p = none := s1.free np
    refine ⟨.ref b, rfl, b, rfl, ⟨_, s2.seq hB⟩, ?_⟩
    refine for_list (K := K) (a := b) (xs := hs.map V.int) (fun i σ H1 => ∃ y5 y6 y7 l, σ = [some (.ref a), some (.ref b), some (.bl r), some (.ref c), some (.ref p), y5, y6, y7] ∧ Same H H1 ∧
        H1 c = some (.lst ((play r cs (hs.take i)).2.map V.int)) ∧ H1 p = some (.lst l) ∧ Prs H1 l (play r cs (hs.take i)).1)
      ⟨none, none, none, [], rfl, s2, ?_, ?_, rfl, fun i v p e => by cases e⟩ (fun i σ H1 _ h => ?_) (fun i x σ H1 hx h => ?_) (fun σ H1 h => ?_)
    · rw [upd_ne npc.symm, upd_same]; rfl
    · rw [upd_same]
    · obtain ⟨_, _, _, _, _, sm, _⟩ := h
      exact sm.seq hB
    · obtain ⟨y5, y6, y7, l, rfl, sm, hc, hp, hP⟩ := h
      obtain ⟨n, en, rfl⟩ := get_map hx
      have hne1 : (play r cs (hs.take i)).2 ≠ [] := play_ne hne
      refine ⟨.ref c, rfl, .bl r, rfl, c, r, _, rfl, SqL.of hc, hne1, fun H2 sA => ?_⟩
      have hc2 := sA _ _ hc
      have hp2 := sA _ _ hp
      have e0 : ((play r cs (hs.take i)).2.map V.int)[low r (play r cs (hs.take i)).2]? = some (.int (mn (play r cs (hs.take i)).2)) := by
        rw [List.getElem?_map, low_get hne1]; rfl
      refine ⟨.ref c, rfl, _, rfl, c, _, _, .int (mn (play r cs (hs.take i)).2), rfl, rfl, SqL.of hc2, atI_nat e0, ?_⟩
      refine ⟨.ref p, rfl, .inl ⟨rfl, _, SqL.of hp2⟩, _, rfl, _, rfl, (by show 2 ≤ sizeLine; decide), fun t nt => ?_⟩
      have nt1 : H2 t = none := nt
      have npt : p ≠ t := ne_of_none hp2 nt1
      have nct : c ≠ t := ne_of_none hc2 nt1
      refine ⟨p, l, _, rfl, rfl, ?_, ?_, ?_⟩
      · rw [upd_ne npt]; exact hp2
      · have e1 := hP.1
        rw [play_len] at e1
        rw [e1, List.length_take]
        exact small_of (Nat.le_trans (Nat.min_le_right _ _) hl1) (by decide)
      · refine ⟨_, rfl, _, rfl, _, _, rfl, rfl, .ref c, rfl, _, rfl, c, (play r cs (hs.take i)).2.map V.int, _, low r (play r cs (hs.take i)).2, rfl, rfl, ?_, ?_, ?_⟩
        · show upd (upd H2 t _) p _ c = _
          rw [upd_ne (Ne.symm npc), upd_ne nct]; exact hc2
        · exact ixN_nat (by rw [List.length_map]; exact low_lt hne1)
        · have e2 : (hs.take (i + 1)) = hs.take i ++ [n] := by rw [List.take_add_one, en]; rfl
          have sB : Same H2 (upd H2 t (.tup [.int (low r (play r cs (hs.take i)).2 : Nat), .int (mn (play r cs (hs.take i)).2)])) := same_new _ nt1
          have hPt : Prs (upd H2 t (.tup [.int (low r (play r cs (hs.take i)).2 : Nat), .int (mn (play r cs (hs.take i)).2)])) l (play r cs (hs.take i)).1 := (hP.same sA).same sB
          refine ⟨_, _, _, l ++ [.ref t], rfl, ?_, ?_, ?_, ?_⟩
          · exact same_set (same_set (sm.trans (sA.trans sB)) nH) nc
          · rw [upd_same, e2, play_snoc]
            show _ = some (HO.lst (((play r cs (hs.take i)).2.set _ _).map V.int))
            rw [List.map_set]
          · rw [upd_ne npc, upd_same]
          · rw [e2, play_snoc]
            refine Prs.but (a := c) (Prs.but (a := p) (Prs.snoc hPt upd_same) (fun xs e => ?_) (But.upd _ _ _)) (fun xs e => ?_) (But.upd _ _ _)
            · rw [upd_ne npt, hp2] at e; cases e
            · rw [upd_ne (Ne.symm npc), upd_ne nct, hc2] at e; cases e
    · obtain ⟨y5, y6, y7, l, rfl, sm, hc, hp, hP⟩ := h
      rw [List.length_map, List.take_length] at hc hP
      refine ⟨.ref p, rfl, .ref c, rfl, (by show 2 ≤ sizeLine; decide), fun t nt => ?_⟩
      have sT := same_new (H := H1) (p := t) (.tup [.ref p, .ref c]) nt
      exact q _ t p c l (sm.trans sT) (sm.free nt) nH nc upd_same (sT _ _ hp) (hP.same sT) (sT _ _ hc)

end

section
variable {P : Program} {w : World} {K : PySem.W.Frag} {mg : Str → Option Value} {base : Heap}
theorem repl_flat (n : Nat) : (List.replicate n [V.int 0]).flatten = (List.replicate n (0 : Int)).map V.int := by
  induction n with
  | zero => rfl
  | succ n ih => rw [List.replicate_succ, List.flatten_cons, ih]; rfl
def spPls (C : Addr) : Sp := fun vs H Q _ => ∃ (x dx l1 l2 b : Addr) (n : Nat) (r : Bool) (g : Int) (hs ks : List Int) (cs : List V), vs = [.ref x, .ref b] ∧ Wl H x C dx l1 l2 n r g hs cs ∧ H b = some (.lst (ks.map V.int)) ∧ ks.length ≤ 300 ∧ 1 ≤ n ∧ n ≤ 30 ∧
  ∀ H' p l, Same H H' → H p = none → H' p = some (.lst l) → Prs H' l (play r (List.replicate n 0) (ks.map fun h => h + g)).1 → Q (.ref p) H'
theorem ok_Wall_places (T : Txt K mg) : FnOk P w K mg base CX0 3 T.a_Wall_places T.d_Wall_places ["self", "cards"] (spPls T.C_Wall) := by
  refine T.F_Wall_places.ok sc_Wall_places (fun vs H Q E h => ?_) (fun cdv A outer s H vs Q E hr h => ?_)
  · obtain ⟨x, dx, l1, l2, b, n, r, g, hs, ks, cs, rfl, _⟩ := h; rfl
  · obtain ⟨x, dx, l1, l2, b, n, r, g, hs, ks, cs, rfl, wl, eb, hk, n1, n2, q⟩ := h
    refine ⟨_, (pss_cons (ps_asg (pe_call (ok_lay_cards T) hr (by rfl) T.g_lay_cards T.F_lay_cards.kp T.b_lay_cards .nil pass0 (pa_cons (pe_op op_rep (pe_lst (pa_cons pe_int pa_nil)) (pe_fldA (pv 0))) (pa_cons (pe_lc (own := [("height", 4)]) (te := (tOp (rI0 fun i j => .int (i + j)) (tVar 4) (tFld K (tVar 0) "_gap"))) rfl sc_Wall_places.nd (pi_list (pv 1)) (blkOk_by (own := [("height", 4)]) (N := nm_Wall_places) (sc := defScope s_Wall_places) (by decide +kernel)) (fun _ _ _ _ _ => (pg_name (i := 4) sc_Wall_places.nd rfl (.inl rfl))) (fun _ _ _ _ _ => pts_nil) (fun _ _ _ _ _ => (pe_op op_add (pv 4) (pe_fldA (pv 0))))) (pa_cons (pe_fldA (pv 0)) pa_nil)))) (pg_tup rfl (pgs_cons (pg_name (i := 2) sc_Wall_places.nd rfl (.inl rfl)) (pgs_cons (pg_name (i := 3) sc_Wall_places.nd rfl (.inl rfl)) pgs_nil))))
  (pss_one (ps_ret (pv 2)))), ?_⟩
    refine ⟨(by show 1 ≤ sizeLine; decide), fun o no => ?_⟩
    have so := same_new (H := H) (p := o) (.lst [.int 0]) no
    have eo : (L2.upd H o (.lst [.int 0])) o = some (.lst [.int 0]) := upd_same
    generalize L2.upd H o _ = H1 at so eo ⊢
    refine ⟨.ref x, rfl, x, T.C_Wall, dx, _, .int n, rfl, (wl.same so).ob, T.cl_Wall, T.na_columns_Wall, rfl, o, (n : Int), _, rfl, rfl, eo, by omega, by omega, (by show 1 * _ ≤ sizeLine; rw [Int.toNat_natCast]; exact small_le (m := 1000) (by omega) (by decide)), fun u nu => ?_⟩
    have eR : (List.replicate ((n : Nat) : Int).toNat [V.int 0]).flatten = (List.replicate n (0 : Int)).map V.int := by
      rw [Int.toNat_natCast]; exact repl_flat n
    rw [eR]
    have su := so.trans (same_new (H := H1) (p := u) (.lst ((List.replicate n (0 : Int)).map V.int)) nu)
    have eu : (L2.upd H1 u (.lst ((List.replicate n (0 : Int)).map V.int))) u = some (.lst ((List.replicate n (0 : Int)).map V.int)) := upd_same
    generalize L2.upd H1 u _ = H2 at su eu ⊢
    refine ⟨.ref b, rfl, b, rfl, ⟨_, SqL.of (su _ _ eb)⟩, fun D nD => ?_⟩
    refine lc_list (K := K) (a := b) (xs := ks.map V.int) (fun i H' => Same H2 H' ∧ H' D = some (.lst ((ks.take i).map fun h => V.int (h + g)))) ⟨same_new _ nD, upd_same⟩ (fun i H' _ p => SqL.of (p.1 _ _ (su _ _ eb))) (fun i y H' e p => ?_) (fun H' p => ?_)
    · obtain ⟨h, eh, rfl⟩ := get_map e
      obtain ⟨s3, eD⟩ := p
      refine ⟨rfl, .int h, rfl, .ref x, rfl, x, T.C_Wall, dx, _, .int g, rfl, (wl.same (su.trans s3)).ob, T.cl_Wall, T.na_gap_Wall, rfl, h, g, rfl, rfl, _, eD, ?_, same_set s3 nD, ?_⟩
      · rw [List.length_map, List.length_take]; exact small_of (m := 1000) (by omega) (by decide)
      · rw [upd_same, List.take_add_one, eh, List.map_append]; rfl
    · obtain ⟨s3, eD⟩ := p
      rw [List.length_map, List.take_length] at eD
      have S3 := su.trans s3
      refine ⟨.ref x, rfl, x, T.C_Wall, dx, _, .bl r, rfl, (wl.same S3).ob, T.cl_Wall, T.na_right_Wall, rfl, ?_⟩
      refine ⟨u, D, r, List.replicate n 0, ks.map fun h => h + g, rfl, SqL.of (s3 _ _ eu), SqL.of (by rw [eD, List.map_map]; rfl), ?_, by rw [List.length_map]; omega, by rw [List.length_replicate]; omega, fun H5 t p c l s5 nt np nc et ep pr ec => ?_⟩
      · intro z
        have := congrArg List.length z
        rw [List.length_replicate] at this
        simp at this; omega
      refine ⟨t, [_, _], rfl, SqT.of et, rfl, _, [_], rfl, _, [], rfl, rfl, ?_⟩
      refine ⟨.ref p, rfl, ?_⟩
      exact q H5 p l (S3.trans s5) (S3.free np) ep pr
end

section
variable {P : Program} {w : World} {K : PySem.W.Frag} {mg : Str → Option Value} {base : Heap}

def spBot (C : Addr) : Sp := fun vs H Q _ => ∃ (x dx l1 l2 : Addr) (n : Nat) (r : Bool) (g : Int) (hs : List Int) (cs : List V), vs = [.ref x] ∧ Wl H x C dx l1 l2 n r g hs cs ∧ 1 ≤ n ∧ n ≤ 30 ∧
  ∀ H' p, Same H H' → H p = none → H' p = some (.lst ((bots n (wl r g n hs) hs).map V.int)) → Q (.ref p) H'
theorem ok_Wall_bottoms (T : Txt K mg) : FnOk P w K mg base CX0 4 T.a_Wall_bottoms T.d_Wall_bottoms ["self"] (spBot T.C_Wall) := by
  refine T.F_Wall_bottoms.ok sc_Wall_bottoms (fun vs H Q E h => ?_) (fun cdv A outer s H vs Q E hr h => ?_)
  · obtain ⟨x, dx, l1, l2, n, r, g, hs, cs, rfl, _⟩ := h; rfl
  · obtain ⟨x, dx, l1, l2, n, r, g, hs, cs, rfl, wl0, n1, n2, q⟩ := h
    refine ⟨_, (pss_cons (ps_set (i := 1) sc_Wall_bottoms.nd rfl (.inl rfl) (pe_op op_rep (pe_lst (pa_cons pe_int pa_nil)) (pe_fldA (pv 0))))
  (pss_cons (ps_for PassesOwn.never rfl (pi_zip (by rfl) T.z_zip (pa_cons (pe_meth (pv 0) T.cl_Wall T.me_Wall_places (ok_Wall_places T) (hr.mono (by decide)) T.b_Wall_places .nil pass0 (pa_cons (pe_fldA (pv 0)) pa_nil)) (pa_cons (pe_fldA (pv 0)) pa_nil))) (pg_tup rfl (pgs_cons (pg_tup rfl (pgs_cons (pg_name (i := 2) sc_Wall_bottoms.nd rfl (.inl rfl)) (pgs_cons (pg_name (i := 3) sc_Wall_bottoms.nd rfl (.inl rfl)) pgs_nil))) (pgs_cons (pg_name (i := 4) sc_Wall_bottoms.nd rfl (.inl rfl)) pgs_nil)))
  (pss_one (ps_asg (pe_op op_add (pv 3) (pv 4)) (pg_sub (pv 1) (pv 2) set_list))))
  (pss_one (ps_ret (pv 1))))), ?_⟩
    refine ⟨(by show 1 ≤ sizeLine; decide), fun o no => ?_⟩
    have so := same_new (H := H) (p := o) (.lst [.int 0]) no
    have eo : (L2.upd H o (.lst [.int 0])) o = some (.lst [.int 0]) := upd_same
    generalize L2.upd H o _ = H1 at so eo ⊢
    refine ⟨.ref x, rfl, x, T.C_Wall, dx, _, .int n, rfl, (wl0.same so).ob, T.cl_Wall, T.na_columns_Wall, rfl, o, (n : Int), _, rfl, rfl, eo, by omega, by omega, (by show 1 * _ ≤ sizeLine; rw [Int.toNat_natCast]; exact small_le (m := 1000) (by omega) (by decide)), fun u nu => ?_⟩
    have eR : (List.replicate ((n : Nat) : Int).toNat [V.int 0]).flatten = (List.replicate n (0 : Int)).map V.int := by
      rw [Int.toNat_natCast]; exact repl_flat n
    rw [eR]
    have su := so.trans (same_new (H := H1) (p := u) (.lst ((List.replicate n (0 : Int)).map V.int)) nu)
    have eu : (L2.upd H1 u (.lst ((List.replicate n (0 : Int)).map V.int))) u = some (.lst ((List.replicate n (0 : Int)).map V.int)) := upd_same
    have nu0 := so.free nu
    generalize L2.upd H1 u _ = H2 at su eu ⊢
    have w2 := wl0.same su
    refine ⟨.ref x, rfl, x, dx, _, rfl, w2.ob, rfl, .ref x, rfl, x, T.C_Wall, dx, _, .ref l1, rfl, w2.ob, T.cl_Wall, T.na_cards_Wall, rfl, x, dx, l1, l2, l1, n, r, g, hs, hs, cs, rfl, w2, w2.c1, by have := w2.few; omega, n1, n2, fun H3 p l s3 np ep pr => ?_⟩
    have w3 := w2.same s3
    refine ⟨.ref x, rfl, x, T.C_Wall, dx, _, .ref l1, rfl, w3.ob, T.cl_Wall, T.na_cards_Wall, rfl, p, l1, l, hs.map V.int, rfl, SqL.of ep, SqL.of w3.c1, ?_⟩
    have hl : l.length = hs.length := by rw [pr.1]; exact wl_len
    have nul : u ≠ l1 := fun z => by rw [z, wl0.c1] at nu0; cases nu0
    have nup : u ≠ p := fun z => by rw [← z, eu] at np; cases np
    have eu3 := s3 _ _ eu
    refine RZ.for_zipL (K := K) (a := p) (b := l1) (xs := l) (ys := hs.map V.int) (by rw [List.length_map, hl]) (fun i σ H4 => ∃ y2 y3 y4, σ = [some (.ref x), some (.ref u), y2, y3, y4] ∧ Same H H4 ∧ But u H3 H4 ∧ H4 u = some (.lst ((bots n ((wl r g n hs).take i) (hs.take i)).map V.int)))
      ⟨none, none, none, rfl, su.trans s3, But.refl _ _, eu3⟩ (fun i σ H4 h => ?_) (fun i y z t σ H4 ey ez h nt => ?_) (fun σ H4 h => ?_)
    · obtain ⟨_, _, _, _, _, b4, _⟩ := h
      exact ⟨SqL.of (b4 _ _ (Ne.symm nup) ep), SqL.of (b4 _ _ (Ne.symm nul) w3.c1)⟩
    · obtain ⟨y2, y3, y4, rfl, s4, b4, eu4⟩ := h
      obtain ⟨k, ek, rfl⟩ := get_map ez
      have il : i < (wl r g n hs).length := by rw [← pr.1]; exact get_lt ey
      obtain ⟨q1, rfl, hq1⟩ := pr.2 i y _ ey (List.getElem?_eq_getElem il)
      have tu : t ≠ u := fun z => by rw [z, eu4] at nt; cases nt
      have q1u : q1 ≠ u := fun z => by rw [z, eu3] at hq1; cases hq1
      have q1t : q1 ≠ t := fun z => by rw [← z, b4 _ _ q1u hq1] at nt; cases nt
      have c1l : (wl r g n hs)[i].1 < n := wl_lt n1 (List.getElem?_eq_getElem il)
      refine ⟨t, [_, _], rfl, SqT.of upd_same, rfl, .ref q1, [.int k], rfl, ⟨q1, [_, _], rfl, SqT.of (by rw [upd_ne q1t]; exact b4 _ _ q1u hq1), rfl, _, [_], rfl, _, [], rfl, rfl, _, [], rfl, rfl, ?_⟩⟩
      refine ⟨_, rfl, _, rfl, _, _, rfl, rfl, .ref u, rfl, _, rfl, u, _, _, (wl r g n hs)[i].1, rfl, rfl, (by rw [upd_ne (Ne.symm tu)]; exact eu4), ?_, ?_⟩
      · exact ixN_nat (by rw [List.length_map, bots_len]; exact c1l)
      · have st4 := same_new (H := H4) (p := t) (.tup [.ref q1, .int k]) nt
        refine ⟨_, _, _, rfl, same_set (s4.trans st4) nu0, ?_, ?_⟩
        · intro c o hc e
          rw [upd_ne hc]; exact st4 _ _ (b4 _ _ hc e)
        · rw [upd_same, List.take_add_one, List.take_add_one, ek, List.getElem?_eq_getElem il]
          show _ = some (HO.lst ((bots n ((wl r g n hs).take i ++ [(wl r g n hs)[i]]) (hs.take i ++ [k])).map V.int))
          rw [bots_snoc (by rw [List.length_take, List.length_take, wl_len]), List.map_set]
    · obtain ⟨y2, y3, y4, rfl, s4, b4, eu4⟩ := h
      rw [hl] at eu4
      have e1 : (wl r g n hs).take hs.length = wl r g n hs := by rw [← wl_len (r := r) (g := g) (n := n) (ks := hs)]; exact List.take_length
      rw [e1, List.take_length] at eu4
      exact ⟨.ref u, rfl, q H4 u s4 nu0 eu4⟩

def sp_tops (C : Addr) : Sp := fun vs H Q _ => ∃ (x dx l1 l2 : Addr) (n : Nat) (r : Bool) (g : Int) (hs : List Int) (cs : List V), vs = [.ref x] ∧ Wl H x C dx l1 l2 n r g hs cs ∧ 1 ≤ n ∧ n ≤ 30 ∧
  ∀ H' p, Same H H' → H p = none → H' p = some (.lst ((topsV r g n hs).map V.int)) → Q (.ref p) H'
theorem ok_Wall_tops (T : Txt K mg) : FnOk P w K mg base CX0 4 T.w_Wall_tops T.dtops_Wall ["self"] (sp_tops T.C_Wall) := by
  refine T.Ftops_Wall.ok sc_Wall_tops (fun vs H Q E h => ?_) (fun cdv A outer s H vs Q E hr h => ?_)
  · obtain ⟨x, dx, l1, l2, n, r, g, hs, cs, rfl, _⟩ := h; rfl
  · obtain ⟨x, dx, l1, l2, n, r, g, hs, cs, rfl, w2, n1, n2, q⟩ := h
    refine ⟨_, (pss_one (ps_ret (pe_lc (own := [("column", 1), ("top", 2)]) (g := (gTup K 2 (gCons (gName 1) (gCons (gName 2) gNil)))) rfl sc_Wall_tops.nd (pi_list (pe_meth (pv 0) T.cl_Wall T.me_Wall_places (ok_Wall_places T) (hr.mono (by decide)) T.b_Wall_places .nil pass0 (pa_cons (pe_fldA (pv 0)) pa_nil))) (blkOk_by (own := [("column", 1), ("top", 2)]) (N := nm_Wall_tops) (sc := defScope s_Wall_tops) (by decide +kernel)) (fun _ _ _ _ _ => (pg_tup rfl (pgs_cons (pg_name (i := 1) sc_Wall_tops.nd rfl (.inl rfl)) (pgs_cons (pg_name (i := 2) sc_Wall_tops.nd rfl (.inl rfl)) pgs_nil)))) (fun _ _ _ _ _ => pts_nil) (fun _ _ _ _ _ => (pv 2))))), ?_⟩
    refine ⟨.ref x, rfl, x, dx, _, rfl, w2.ob, rfl, .ref x, rfl, x, T.C_Wall, dx, _, .ref l1, rfl, w2.ob, T.cl_Wall, T.na_cards_Wall, rfl, x, dx, l1, l2, l1, n, r, g, hs, hs, cs, rfl, w2, w2.c1, by have := w2.few; omega, n1, n2, fun H2 p l s2 np hp hP => ?_⟩
    refine ⟨p, rfl, ⟨_, SqL.of hp⟩, fun D nD => ?_⟩
    refine lc_list (K := K) (a := p) (xs := l) (fun i H' => Same H2 H' ∧ H' D = some (.lst (((topsV r g n hs).take i).map V.int))) ⟨same_new _ nD, upd_same⟩ (fun i H' _ h => SqL.of (h.1 _ _ hp)) (fun i y H' e h => ?_) (fun H' h => ?_)
    · obtain ⟨sm, eD⟩ := h
      have il : i < (wl r g n hs).length := by rw [← hP.1]; exact get_lt e
      obtain ⟨z, rfl, hz⟩ := hP.2 i y _ e (List.getElem?_eq_getElem il)
      refine ⟨z, [_, _], rfl, SqT.of (sm _ _ hz), rfl, _, [_], rfl, _, [], rfl, rfl, rfl, ?_⟩
      refine ⟨_, rfl, _, eD, ?_, same_set sm nD, ?_⟩
      · rw [List.length_map, List.length_take, topsV_len]
        exact small_of (Nat.le_trans (Nat.min_le_right _ _) w2.few) (by decide)
      · rw [upd_same]
        refine congrArg (fun z => some (HO.lst z)) (take_map_succ V.int ?_)
        unfold topsV
        rw [List.getElem?_map, List.getElem?_eq_getElem il]
        rfl
    · obtain ⟨sm, eD⟩ := h
      rw [hP.1, wl_len, ← topsV_len (r := r) (g := g) (n := n) (ks := hs), List.take_length] at eD
      exact q H' D (s2.trans sm) (s2.free nD) eD

def sp_card_columns (C : Addr) : Sp := fun vs H Q _ => ∃ (x dx l1 l2 : Addr) (n : Nat) (r : Bool) (g : Int) (hs : List Int) (cs : List V), vs = [.ref x] ∧ Wl H x C dx l1 l2 n r g hs cs ∧ 1 ≤ n ∧ n ≤ 30 ∧
  ∀ H' p, Same H H' → H p = none → H' p = some (.lst ((colsV r g n hs).map V.int)) → Q (.ref p) H'
theorem ok_Wall_card_columns (T : Txt K mg) : FnOk P w K mg base CX0 4 T.w_Wall_card_columns T.dcard_columns_Wall ["self"] (sp_card_columns T.C_Wall) := by
  refine T.Fcard_columns_Wall.ok sc_Wall_card_columns (fun vs H Q E h => ?_) (fun cdv A outer s H vs Q E hr h => ?_)
  · obtain ⟨x, dx, l1, l2, n, r, g, hs, cs, rfl, _⟩ := h; rfl
  · obtain ⟨x, dx, l1, l2, n, r, g, hs, cs, rfl, w2, n1, n2, q⟩ := h
    refine ⟨_, (pss_one (ps_ret (pe_lc (own := [("column", 1), ("top", 2)]) (g := (gTup K 2 (gCons (gName 1) (gCons (gName 2) gNil)))) rfl sc_Wall_card_columns.nd (pi_list (pe_meth (pv 0) T.cl_Wall T.me_Wall_places (ok_Wall_places T) (hr.mono (by decide)) T.b_Wall_places .nil pass0 (pa_cons (pe_fldA (pv 0)) pa_nil))) (blkOk_by (own := [("column", 1), ("top", 2)]) (N := nm_Wall_card_columns) (sc := defScope s_Wall_card_columns) (by decide +kernel)) (fun _ _ _ _ _ => (pg_tup rfl (pgs_cons (pg_name (i := 1) sc_Wall_card_columns.nd rfl (.inl rfl)) (pgs_cons (pg_name (i := 2) sc_Wall_card_columns.nd rfl (.inl rfl)) pgs_nil)))) (fun _ _ _ _ _ => pts_nil) (fun _ _ _ _ _ => (pv 1))))), ?_⟩
    refine ⟨.ref x, rfl, x, dx, _, rfl, w2.ob, rfl, .ref x, rfl, x, T.C_Wall, dx, _, .ref l1, rfl, w2.ob, T.cl_Wall, T.na_cards_Wall, rfl, x, dx, l1, l2, l1, n, r, g, hs, hs, cs, rfl, w2, w2.c1, by have := w2.few; omega, n1, n2, fun H2 p l s2 np hp hP => ?_⟩
    refine ⟨p, rfl, ⟨_, SqL.of hp⟩, fun D nD => ?_⟩
    refine lc_list (K := K) (a := p) (xs := l) (fun i H' => Same H2 H' ∧ H' D = some (.lst (((colsV r g n hs).take i).map V.int))) ⟨same_new _ nD, upd_same⟩ (fun i H' _ h => SqL.of (h.1 _ _ hp)) (fun i y H' e h => ?_) (fun H' h => ?_)
    · obtain ⟨sm, eD⟩ := h
      have il : i < (wl r g n hs).length := by rw [← hP.1]; exact get_lt e
      obtain ⟨z, rfl, hz⟩ := hP.2 i y _ e (List.getElem?_eq_getElem il)
      refine ⟨z, [_, _], rfl, SqT.of (sm _ _ hz), rfl, _, [_], rfl, _, [], rfl, rfl, rfl, ?_⟩
      refine ⟨_, rfl, _, eD, ?_, same_set sm nD, ?_⟩
      · rw [List.length_map, List.length_take, colsV_len]
        exact small_of (Nat.le_trans (Nat.min_le_right _ _) w2.few) (by decide)
      · rw [upd_same]
        refine congrArg (fun z => some (HO.lst z)) (take_map_succ V.int ?_)
        unfold colsV
        rw [List.getElem?_map, List.getElem?_eq_getElem il]
        rfl
    · obtain ⟨sm, eD⟩ := h
      rw [hP.1, wl_len, ← colsV_len (r := r) (g := g) (n := n) (ks := hs), List.take_length] at eD
      exact q H' D (s2.trans sm) (s2.free nD) eD

theorem ok_Wall_end (T : Txt K mg) : FnOk P w K mg base CX0 5 T.w_Wall_end T.dend_Wall ["self"] (spBot T.C_Wall) := by
  refine T.Fend_Wall.ok sc_Wall_end (fun vs H Q E h => ?_) (fun cdv A outer s H vs Q E hr h => ?_)
  · obtain ⟨x, dx, l1, l2, n, r, g, hs, cs, rfl, _⟩ := h; rfl
  · obtain ⟨x, dx, l1, l2, n, r, g, hs, cs, rfl, w2, n1, n2, q⟩ := h
    refine ⟨_, (pss_one (ps_ret (pe_meth0 (pv 0) T.cl_Wall T.me_Wall_bottoms (ok_Wall_bottoms T) (hr.mono (by decide)) T.b_Wall_bottoms .nil pass0))), ?_⟩
    exact ⟨.ref x, rfl, x, dx, _, rfl, w2.ob, rfl, x, dx, l1, l2, n, r, g, hs, cs, rfl, w2, n1, n2, q⟩
end

section
variable {P : Program} {w : World} {K : PySem.W.Frag} {mg : Str → Option Value} {base : Heap}
/-! ### the program -/
def spIW : Sp := fun vs H Q _ => ∃ v lo hi : Int, vs = [.int v, .int lo, .int hi] ∧ Q (.bl (decide (lo ≤ v ∧ v ≤ hi))) H
theorem ok_is_integer_within (T : Txt K mg) : FnOk P w K mg base CX0 1 T.a_is_integer_within T.d_is_integer_within ["value", "least", "greatest"] spIW := by
  refine T.F_is_integer_within.ok sc_is_integer_within (fun vs H Q E h => ?_) (fun cdv A outer s H vs Q E hr h => ?_)
  · obtain ⟨v, lo, hi, rfl, _⟩ := h; rfl
  · obtain ⟨v, lo, hi, rfl, q⟩ := h
    refine ⟨_, (pss_cons (ps_if (PW.pt (pw_or (pt_not (pt_val (pe_callB call_isi (by rfl) T.z_isinstance (by decide +kernel) (pa_cons (pv 0) (pa_cons (pe_bltn (v := .ty "int") (by rfl) T.z_int (by decide +kernel) rfl) pa_nil))))) (pw_or1 (pt_val (pe_callB call_isi (by rfl) T.z_isinstance (by decide +kernel) (pa_cons (pv 0) (pa_cons (pe_bltn (v := .ty "bool") (by rfl) T.z_bool (by decide +kernel) rfl) pa_nil)))))))
  (pss_one (ps_ret pe_bl))
  pss_nil)
  (pss_one (ps_ret (pe_chain op_le op_le (pv 1) (pv 0) (pv 2))))), ?_⟩
    refine ⟨.int v, rfl, .int v, .ty "int", .type "int", .type "int", true, rfl, .ty _, .base (.int v), kit_ty (by decide +kernel), true, rfl, ?_⟩
    refine iteF ⟨.int v, rfl, .int v, .ty "bool", .type "int", .type "bool", false, rfl, .ty _, .base (.int v), kit_ty (by decide +kernel), false, rfl, iteF ?_⟩
    refine ⟨.int lo, rfl, .int v, rfl, lo, v, rfl, rfl, decide (lo ≤ v), rfl, ?_⟩
    by_cases h1 : lo ≤ v
    · rw [decide_eq_true h1]
      refine iteT ⟨.int hi, rfl, v, hi, rfl, rfl, ?_⟩
      have e : decide (v ≤ hi) = decide (lo ≤ v ∧ v ≤ hi) := by simp [h1]
      show Q (.bl (decide (v ≤ hi))) H
      rw [e]
      exact q
    · rw [decide_eq_false h1]
      refine iteF ?_
      rw [show decide (lo ≤ v ∧ v ≤ hi) = false by simp [h1]] at q
      exact q
abbrev big : Int := 1000000000000000000000000000000
def spCC : Sp := fun vs H Q _ => ∃ n : Int, vs = [.int n] ∧ 1 ≤ n ∧ n ≤ 30 ∧ Q .non H
theorem ok_check_columns (T : Txt K mg) : FnOk P w K mg base CX0 2 T.a_check_columns T.d_check_columns ["columns"] spCC := by
  refine T.F_check_columns.ok sc_check_columns (fun vs H Q E h => ?_) (fun cdv A outer s H vs Q E hr h => ?_)
  · obtain ⟨n, rfl, _⟩ := h; rfl
  · obtain ⟨n, rfl, n1, n2, q⟩ := h
    refine ⟨_, (pss_one (ps_if (pt_not (pt_val (pe_call (ok_is_integer_within T) hr (by rfl) T.g_is_integer_within T.F_is_integer_within.kp T.b_is_integer_within .nil pass0 (pa_cons (pv 0) (pa_cons pe_int (pa_cons (pe_glob (v := .int 30) (by rfl) T.c_MOST_COLUMNS ⟨_, rfl⟩) pa_nil))))))
  (pss_one ps_never)
  pss_nil)), ?_⟩
    refine ⟨.int n, rfl, n, 1, 30, rfl, ?_⟩
    rw [decide_eq_true (show (1 : Int) ≤ n ∧ n ≤ 30 from ⟨n1, n2⟩)]
    exact ⟨true, rfl, iteF q⟩
def spCI : Sp := fun vs H Q _ => ∃ i n : Int, vs = [.int i, .int n] ∧ 0 ≤ i ∧ i < n ∧ Q .non H
theorem ok_check_index (T : Txt K mg) : FnOk P w K mg base CX0 2 T.a_check_index T.d_check_index ["index", "many"] spCI := by
  refine T.F_check_index.ok sc_check_index (fun vs H Q E h => ?_) (fun cdv A outer s H vs Q E hr h => ?_)
  · obtain ⟨i, n, rfl, _⟩ := h; rfl
  · obtain ⟨i, n, rfl, h0, h1, q⟩ := h
    refine ⟨_, (pss_one (ps_if (pt_not (pt_val (pe_call (ok_is_integer_within T) hr (by rfl) T.g_is_integer_within T.F_is_integer_within.kp T.b_is_integer_within .nil pass0 (pa_cons (pv 0) (pa_cons pe_int (pa_cons (pe_op op_sub (pv 1) pe_int) pa_nil))))))
  (pss_one ps_never)
  pss_nil)), ?_⟩
    refine ⟨.int i, rfl, .int n, rfl, n, 1, rfl, rfl, i, 0, _, rfl, ?_⟩
    rw [decide_eq_true (show (0 : Int) ≤ i ∧ i ≤ n - 1 by omega)]
    exact ⟨true, rfl, q⟩
def spOH : Sp := fun vs H Q _ => ∃ h : Int, vs = [.int h] ∧ Q (.bl (decide (1 ≤ h ∧ h ≤ big))) H
theorem ok_is_one_height (T : Txt K mg) : FnOk P w K mg base CX0 2 T.a_is_one_height T.d_is_one_height ["value"] spOH := by
  refine T.F_is_one_height.ok sc_is_one_height (fun vs H Q E h => ?_) (fun cdv A outer s H vs Q E hr h => ?_)
  · obtain ⟨i, rfl, _⟩ := h; rfl
  · obtain ⟨i, rfl, q⟩ := h
    refine ⟨_, (pss_one (ps_ret (pe_call (ok_is_integer_within T) hr (by rfl) T.g_is_integer_within T.F_is_integer_within.kp T.b_is_integer_within .nil pass0 (pa_cons (pv 0) (pa_cons pe_int (pa_cons (pe_glob (v := .int 1000000000000000000000000000000) (by rfl) T.c_MOST_HEIGHT ⟨_, rfl⟩) pa_nil)))))), ?_⟩
    exact ⟨.int i, rfl, i, 1, big, rfl, q⟩
def spCH : Sp := fun vs H Q _ => ∃ h : Int, vs = [.int h] ∧ 1 ≤ h ∧ h ≤ big ∧ Q .non H
theorem ok_check_height (T : Txt K mg) : FnOk P w K mg base CX0 3 T.a_check_height T.d_check_height ["height"] spCH := by
  refine T.F_check_height.ok sc_check_height (fun vs H Q E h => ?_) (fun cdv A outer s H vs Q E hr h => ?_)
  · obtain ⟨i, rfl, _⟩ := h; rfl
  · obtain ⟨i, rfl, h0, h1, q⟩ := h
    refine ⟨_, (pss_one (ps_if (pt_not (pt_val (pe_call (ok_is_one_height T) hr (by rfl) T.g_is_one_height T.F_is_one_height.kp T.b_is_one_height .nil pass0 (pa_cons (pv 0) pa_nil))))
  (pss_one ps_never)
  pss_nil)), ?_⟩
    refine ⟨.int i, rfl, i, rfl, ?_⟩
    rw [decide_eq_true (show (1 : Int) ≤ i ∧ i ≤ big from ⟨h0, h1⟩)]
    exact ⟨true, rfl, iteF q⟩
def spWith (K : PySem.W.Frag) : Sp := fun vs H Q _ => ∃ (a : Addr) (i : Nat) (x : Int) (ns : List Int), vs = [.ref a, .int i, .int x] ∧ SqL K H a (ns.map V.int) ∧ i ≤ ns.length ∧ ns.length ≤ 1000 ∧
  ∀ H' p, Same H H' → H p = none → H' p = some (.lst ((insAt ns i x).map V.int)) → Q (.ref p) H'
theorem ok_with_item (T : Txt K mg) : FnOk P w K mg base CX0 1 T.a_with_item T.d_with_item ["items", "index", "item"] (spWith K) := by
  refine T.F_with_item.ok sc_with_item (fun vs H Q E h => ?_) (fun cdv A outer s H vs Q E hr h => ?_)
  · obtain ⟨a, i, x, ns, rfl, _⟩ := h; rfl
  · obtain ⟨a, i, x, ns, rfl, hS, hi, hl, q⟩ := h
    refine ⟨_, (pss_one (ps_ret (pe_op op_cat (pe_op op_cat (pe_slice sl_list (pv 0) po_none (po_some (pv 1))) (pe_lst (pa_cons (pv 2) pa_nil))) (pe_slice sl_list (pv 0) (po_some (pv 1)) po_none)))), ?_⟩
    refine ⟨.ref a, rfl, .int i, rfl, i, rfl, a, _, rfl, hS, fun p1 n1 => ?_⟩
    rw [cut_to hi]
    have s1 := same_new (H := H) (p := p1) (.lst ((ns.take i).map V.int)) n1
    refine ⟨.int x, rfl, (by show 1 ≤ sizeLine; decide), fun p2 n2 => ?_⟩
    have s2 := same_new (p := p2) (.lst [.int x]) n2
    refine ⟨p1, p2, _, _, rfl, rfl, s2 _ _ upd_same, upd_same, ?_, fun p3 n3 => ?_⟩
    · rw [List.length_map, List.length_take]
      exact small_le (m := 2000) (by simp only [List.length_cons, List.length_nil]; omega) (by decide)
    have s3 := same_new (p := p3) (.lst ((ns.take i).map V.int ++ [.int x])) n3
    refine ⟨.ref a, rfl, .int i, rfl, i, rfl, a, _, rfl, (s1.trans (s2.trans s3)).seq hS, fun p4 n4 => ?_⟩
    rw [cut_from hi] at *
    have s4 := same_new (p := p4) (.lst ((ns.drop i).map V.int)) n4
    refine ⟨p3, p4, _, _, rfl, rfl, s4 _ _ upd_same, upd_same, ?_, fun p5 n5 => ?_⟩
    · rw [List.length_append, List.length_map, List.length_take, List.length_map, List.length_drop]
      exact small_le (m := 3000) (by simp only [List.length_cons, List.length_nil]; omega) (by decide)
    have S4 := ((s1.trans s2).trans s3).trans s4
    refine q _ p5 (same_lay S4 n5) (S4.free n5) ?_
    rw [upd_same]
    unfold insAt
    rw [List.map_append, List.map_append]
    rfl
def spWithout (K : PySem.W.Frag) : Sp := fun vs H Q _ => ∃ (a : Addr) (i : Nat) (ns : List Int), vs = [.ref a, .int i] ∧ SqL K H a (ns.map V.int) ∧ i < ns.length ∧ ns.length ≤ 1000 ∧
  ∀ H' p, Same H H' → H p = none → H' p = some (.lst ((delAt ns i).map V.int)) → Q (.ref p) H'
theorem ok_without_item (T : Txt K mg) : FnOk P w K mg base CX0 1 T.a_without_item T.d_without_item ["items", "index"] (spWithout K) := by
  refine T.F_without_item.ok sc_without_item (fun vs H Q E h => ?_) (fun cdv A outer s H vs Q E hr h => ?_)
  · obtain ⟨a, i, ns, rfl, _⟩ := h; rfl
  · obtain ⟨a, i, ns, rfl, hS, hi, hl, q⟩ := h
    refine ⟨_, (pss_one (ps_ret (pe_op op_cat (pe_slice sl_list (pv 0) po_none (po_some (pv 1))) (pe_slice sl_list (pv 0) (po_some (pe_op op_add (pv 1) pe_int)) po_none)))), ?_⟩
    refine ⟨.ref a, rfl, .int i, rfl, i, rfl, a, _, rfl, hS, fun p1 n1 => ?_⟩
    rw [cut_to (Nat.le_of_lt hi)]
    have s1 := same_new (H := H) (p := p1) (.lst ((ns.take i).map V.int)) n1
    refine ⟨.ref a, rfl, .int i, rfl, i, 1, rfl, rfl, (i : Int) + 1, rfl, a, _, rfl, s1.seq hS, fun p2 n2 => ?_⟩
    have ec : cutV (ns.map V.int) (some ((i : Int) + 1)) none = (ns.drop (i + 1)).map V.int := cut_from (k := i + 1) hi
    rw [ec]
    have s2 := same_new (p := p2) (.lst ((ns.drop (i + 1)).map V.int)) n2
    refine ⟨p1, p2, _, _, rfl, rfl, s2 _ _ upd_same, upd_same, ?_, fun p3 n3 => ?_⟩
    · rw [List.length_map, List.length_take, List.length_map, List.length_drop]
      exact small_le (m := 2000) (by omega) (by decide)
    have S2 := s1.trans s2
    refine q _ p3 (same_lay S2 n3) (S2.free n3) ?_
    rw [upd_same]
    unfold delAt
    rw [List.map_append]
def spMvI (K : PySem.W.Frag) : Sp := fun vs H Q _ => ∃ (a : Addr) (i j : Nat) (x : Int) (ns : List Int), vs = [.ref a, .int i, .int j] ∧ SqL K H a (ns.map V.int) ∧ ns[i]? = some x ∧ j < ns.length ∧ ns.length ≤ 1000 ∧
  ∀ H' p, Same H H' → H p = none → H' p = some (.lst ((insAt (delAt ns i) j x).map V.int)) → Q (.ref p) H'
theorem ok_with_moved_item (T : Txt K mg) : FnOk P w K mg base CX0 2 T.a_with_moved_item T.d_with_moved_item ["items", "index", "place"] (spMvI K) := by
  refine T.F_with_moved_item.ok sc_with_moved_item (fun vs H Q E h => ?_) (fun cdv A outer s H vs Q E hr h => ?_)
  · obtain ⟨a, i, j, x, ns, rfl, _⟩ := h; rfl
  · obtain ⟨a, i, j, x, ns, rfl, hS, hx, hj, hl, q⟩ := h
    have hi := get_lt hx
    have dl1 := delAt_len hi
    refine ⟨_, (pss_one (ps_ret (pe_call (ok_with_item T) hr (by rfl) T.g_with_item T.F_with_item.kp T.b_with_item .nil pass0 (pa_cons (pe_call (ok_without_item T) hr (by rfl) T.g_without_item T.F_without_item.kp T.b_without_item .nil pass0 (pa_cons (pv 0) (pa_cons (pv 1) pa_nil))) (pa_cons (pv 2) (pa_cons (pe_ix ix_list (pv 0) (pv 1) (fun _ _ => rfl)) pa_nil)))))), ?_⟩
    refine ⟨.ref a, rfl, .int i, rfl, a, i, ns, rfl, hS, hi, hl, fun H2 p2 s2 np2 ep2 => ?_⟩
    refine ⟨.int j, rfl, .ref a, rfl, .int i, rfl, a, _, _, .int x, rfl, rfl, s2.seq hS, atI_nat (by rw [List.getElem?_map, hx]; rfl), ?_⟩
    exact ⟨p2, j, x, _, rfl, SqL.of ep2, by omega, by omega, fun H3 p3 s3 np3 ep3 => q H3 p3 (s2.trans s3) (s2.free np3) ep3⟩
def spOtI (K : PySem.W.Frag) : Sp := fun vs H Q _ => ∃ (a : Addr) (i : Nat) (x : Int) (ns : List Int), vs = [.ref a, .int i, .int x] ∧ SqL K H a (ns.map V.int) ∧ i < ns.length ∧ ns.length ≤ 1000 ∧
  ∀ H' p, Same H H' → H p = none → H' p = some (.lst ((insAt (delAt ns i) i x).map V.int)) → Q (.ref p) H'
theorem ok_with_other_item (T : Txt K mg) : FnOk P w K mg base CX0 2 T.a_with_other_item T.d_with_other_item ["items", "index", "item"] (spOtI K) := by
  refine T.F_with_other_item.ok sc_with_other_item (fun vs H Q E h => ?_) (fun cdv A outer s H vs Q E hr h => ?_)
  · obtain ⟨a, i, x, ns, rfl, _⟩ := h; rfl
  · obtain ⟨a, i, x, ns, rfl, hS, hi, hl, q⟩ := h
    have dl1 := delAt_len hi
    refine ⟨_, (pss_one (ps_ret (pe_call (ok_with_item T) hr (by rfl) T.g_with_item T.F_with_item.kp T.b_with_item .nil pass0 (pa_cons (pe_call (ok_without_item T) hr (by rfl) T.g_without_item T.F_without_item.kp T.b_without_item .nil pass0 (pa_cons (pv 0) (pa_cons (pv 1) pa_nil))) (pa_cons (pv 1) (pa_cons (pv 2) pa_nil)))))), ?_⟩
    refine ⟨.ref a, rfl, .int i, rfl, a, i, ns, rfl, hS, hi, hl, fun H2 p2 s2 np2 ep2 => ?_⟩
    exact ⟨.int i, rfl, .int x, rfl, p2, i, x, _, rfl, SqL.of ep2, by omega, by omega, fun H3 p3 s3 np3 ep3 => q H3 p3 (s2.trans s3) (s2.free np3) ep3⟩
end

section
variable {P : Program} {w : World} {K : PySem.W.Frag} {mg : Str → Option Value} {base : Heap}
theorem cutV_from (xs : List V) (k : Nat) : cutV xs (some (k : Int)) none = xs.drop k := by
  unfold cutV
  have e1 : HT.sIx xs.length 0 (some (k : Int)) = min k xs.length := by
    unfold HT.sIx
    simp
    try omega
  have e2 : HT.sIx xs.length xs.length none = xs.length := rfl
  rw [e1, e2, List.take_of_length_le (by rw [List.length_drop] <;> omega)]
  by_cases h : k ≤ xs.length
  · rw [Nat.min_eq_left h]
  · rw [Nat.min_eq_right (by omega), List.drop_eq_nil_of_le (by omega), List.drop_eq_nil_of_le (by omega)]
/-- all but a wall and its calls stands -/
def ButW (x l2 : Addr) (H H' : Hp) : Prop := ∀ c o, c ≠ x → c ≠ l2 → H c = some o → H' c = some o
theorem Wl.x2 {H : Hp} {x C dx l1 l2 : Addr} {n : Int} {r : Bool} {g : Int} {hs : List Int} {cs : List V} (h : Wl H x C dx l1 l2 n r g hs cs) : x ≠ l2 := fun z => by
  have := h.ob
  rw [z, h.c2] at this
  cases this
/-- a change of a wall: its old columns and cards are its last call -/
def ChgQ (C : Addr) (H : Hp) (x dx l1 l2 : Addr) (n m : Int) (r : Bool) (g : Int) (ks : List Int) (cs : List V) (Q : Hp → Prop) : Prop :=
  ∀ t m1 H', H t = none → (H m1 = none ∨ m1 = l1) → ButW x l2 H H' → H' t = some (.tup [.int n, .ref l1]) → Wl H' x C dx m1 l2 m r g ks (cs ++ [.ref t]) → Q H'
def spRoom (C : Addr) : Sp := fun vs H Q _ => ∃ (x dx l1 l2 : Addr) (n m : Int) (r : Bool) (g : Int) (hs : List Int) (cs : List V), vs = [.ref x, .int m] ∧ Wl H x C dx l1 l2 n r g hs cs ∧ (hs.length : Int) + m ≤ 200 ∧ Q .non H
theorem ok_Wall_check_room (T : Txt K mg) : FnOk P w K mg base CX0 1 T.a_Wall_check_room T.d_Wall_check_room ["self", "many"] (spRoom T.C_Wall) := by
  refine T.F_Wall_check_room.ok sc_Wall_check_room (fun vs H Q E h => ?_) (fun cdv A outer s H vs Q E hr h => ?_)
  · obtain ⟨x, dx, l1, l2, n, m, r, g, hs, cs, rfl, _⟩ := h; rfl
  · obtain ⟨x, dx, l1, l2, n, m, r, g, hs, cs, rfl, wl, le, q⟩ := h
    refine ⟨_, (pss_one (ps_if (pt_cmpR op_gt (pe_op op_add (pe_callB call_len_seq (by rfl) T.z_len (by decide +kernel) (pa_cons (pe_fldA (pv 0)) pa_nil)) (pv 1)) (ClX.pe_cval (pe_glob (v := .ref T.C_Wall) (by rfl) T.gc_Wall rfl)) (nomark _))
  (pss_one ps_never)
  pss_nil)), ?_⟩
    obtain ⟨u, cv⟩ := T.cv_Wall_MOST
    refine ⟨.ref x, rfl, x, T.C_Wall, dx, _, .ref l1, rfl, wl.ob, T.cl_Wall, T.na_cards_Wall, rfl, l1, _, rfl, .inl (SqL.of wl.c1), .int m, rfl, _, m, rfl, rfl, T.C_Wall, .type "type", .int 200, _, rfl, T.rd_Wall, cv, _, 200, rfl, rfl, _, rfl, ?_⟩
    rw [List.length_map]
    exact ite_f (by simp; omega) q
def sp_put_in (C : Addr) : Sp := fun vs H Q _ => ∃ (x dx l1 l2 : Addr) (n : Int) (r : Bool) (g : Int) (hs : List Int) (cs : List V) (i : Nat) (h : Int), vs = [.ref x, .int i, .int h] ∧ Wl H x C dx l1 l2 n r g hs cs ∧ cs.length < 1000 ∧ i ≤ hs.length ∧ 1 ≤ h ∧ h ≤ big ∧ hs.length < 200 ∧ ChgQ C H x dx l1 l2 n n r g (insAt hs i h) cs fun H' => Q .non H'
theorem ok_Wall_put_in (T : Txt K mg) : FnOk P w K mg base CX0 5 T.a_Wall_put_in T.d_Wall_put_in ["self", "index", "height"] (sp_put_in T.C_Wall) := by
  refine T.F_Wall_put_in.ok sc_Wall_put_in (fun vs H Q E h => ?_) (fun cdv A outer s H vs Q E hr h => ?_)
  · obtain ⟨x, dx, l1, l2, n, r, g, hs, cs, i, h, rfl, _⟩ := h; rfl
  · obtain ⟨x, dx, l1, l2, n, r, g, hs, cs, i, h, rfl, wl, lc, hi, h1, h2, h3, q⟩ := h
    refine ⟨_, (pss_cons (ps_expr (pe_call (ok_check_index T) (hr.mono (by decide)) (by rfl) T.g_check_index T.F_check_index.kp T.b_check_index .nil pass0 (pa_cons (pv 1) (pa_cons (pe_op op_add (pe_callB call_len_seq (by rfl) T.z_len (by decide +kernel) (pa_cons (pe_fldA (pv 0)) pa_nil)) pe_int) pa_nil))))
  (pss_cons (ps_expr (pe_call (ok_check_height T) (hr.mono (by decide)) (by rfl) T.g_check_height T.F_check_height.kp T.b_check_height .nil pass0 (pa_cons (pv 2) pa_nil)))
  (pss_cons (ps_expr (pe_meth (pv 0) T.cl_Wall T.me_Wall_check_room (ok_Wall_check_room T) (hr.mono (by decide)) T.b_Wall_check_room .nil pass0 (pa_cons pe_int pa_nil)))
  (pss_one (ps_expr (pe_meth (pv 0) T.cl_Wall T.me_Wall_change (ok_Wall_change T) (hr.mono (by decide)) T.b_Wall_change .nil pass0 (pa_cons (pe_fldA (pv 0)) (pa_cons (pe_call (ok_with_item T) (hr.mono (by decide)) (by rfl) T.g_with_item T.F_with_item.kp T.b_with_item .nil pass0 (pa_cons (pe_fldA (pv 0)) (pa_cons (pv 1) (pa_cons (pv 2) pa_nil)))) pa_nil)))))))), ?_⟩
    refine ⟨.int i, rfl, .ref x, rfl, x, T.C_Wall, dx, _, .ref l1, rfl, wl.ob, T.cl_Wall, T.na_cards_Wall, rfl, l1, _, rfl, .inl (SqL.of wl.c1), _, 1, rfl, rfl, i, _, rfl, by omega, (by rw [List.length_map]; omega), ?_⟩
    refine ⟨.int h, rfl, h, rfl, h1, h2, ?_⟩
    refine ⟨.ref x, rfl, x, dx, _, rfl, wl.ob, rfl, x, dx, l1, l2, n, 1, r, g, hs, cs, rfl, wl, by omega, ?_⟩
    refine ⟨.ref x, rfl, x, dx, _, rfl, wl.ob, rfl, .ref x, rfl, x, T.C_Wall, dx, _, .int n, rfl, wl.ob, T.cl_Wall, T.na_columns_Wall, rfl, .ref x, rfl, x, T.C_Wall, dx, _, .ref l1, rfl, wl.ob, T.cl_Wall, T.na_cards_Wall, rfl, .int i, rfl, .int h, rfl, l1, i, h, hs, rfl, SqL.of wl.c1, hi, by omega, fun H1 m1 s1 nm1 em1 => ?_⟩
    have w1 := wl.same s1
    have m2 : m1 ≠ l2 := fun z => by rw [z, wl.c2] at nm1; cases nm1
    refine ⟨x, dx, l1, l2, m1, n, n, r, g, hs, _, cs, rfl, w1, lc, em1, (by rw [insAt_len hi]; omega), w1.x2, w1.ne, m2, fun t H' nt bu et w' => ?_⟩
    exact q t m1 H' (s1.free nt) (.inl nm1) (fun c o h1 h2 e => bu c o h1 h2 (s1 _ _ e)) et w'
def sp_take_out (C : Addr) : Sp := fun vs H Q _ => ∃ (x dx l1 l2 : Addr) (n : Int) (r : Bool) (g : Int) (hs : List Int) (cs : List V) (i : Nat), vs = [.ref x, .int i] ∧ Wl H x C dx l1 l2 n r g hs cs ∧ cs.length < 1000 ∧ i < hs.length ∧ ChgQ C H x dx l1 l2 n n r g (delAt hs i) cs fun H' => Q .non H'
theorem ok_Wall_take_out (T : Txt K mg) : FnOk P w K mg base CX0 5 T.a_Wall_take_out T.d_Wall_take_out ["self", "index"] (sp_take_out T.C_Wall) := by
  refine T.F_Wall_take_out.ok sc_Wall_take_out (fun vs H Q E h => ?_) (fun cdv A outer s H vs Q E hr h => ?_)
  · obtain ⟨x, dx, l1, l2, n, r, g, hs, cs, i, rfl, _⟩ := h; rfl
  · obtain ⟨x, dx, l1, l2, n, r, g, hs, cs, i, rfl, wl, lc, hi, q⟩ := h
    refine ⟨_, (pss_cons (ps_expr (pe_call (ok_check_index T) (hr.mono (by decide)) (by rfl) T.g_check_index T.F_check_index.kp T.b_check_index .nil pass0 (pa_cons (pv 1) (pa_cons (pe_callB call_len_seq (by rfl) T.z_len (by decide +kernel) (pa_cons (pe_fldA (pv 0)) pa_nil)) pa_nil))))
  (pss_one (ps_expr (pe_meth (pv 0) T.cl_Wall T.me_Wall_change (ok_Wall_change T) (hr.mono (by decide)) T.b_Wall_change .nil pass0 (pa_cons (pe_fldA (pv 0)) (pa_cons (pe_call (ok_without_item T) (hr.mono (by decide)) (by rfl) T.g_without_item T.F_without_item.kp T.b_without_item .nil pass0 (pa_cons (pe_fldA (pv 0)) (pa_cons (pv 1) pa_nil))) pa_nil)))))), ?_⟩
    refine ⟨.int i, rfl, .ref x, rfl, x, T.C_Wall, dx, _, .ref l1, rfl, wl.ob, T.cl_Wall, T.na_cards_Wall, rfl, l1, _, rfl, .inl (SqL.of wl.c1), i, _, rfl, by omega, (by rw [List.length_map]; omega), ?_⟩
    refine ⟨.ref x, rfl, x, dx, _, rfl, wl.ob, rfl, .ref x, rfl, x, T.C_Wall, dx, _, .int n, rfl, wl.ob, T.cl_Wall, T.na_columns_Wall, rfl, .ref x, rfl, x, T.C_Wall, dx, _, .ref l1, rfl, wl.ob, T.cl_Wall, T.na_cards_Wall, rfl, .int i, rfl, l1, i, hs, rfl, SqL.of wl.c1, hi, by have := wl.few; omega, fun H1 m1 s1 nm1 em1 => ?_⟩
    have w1 := wl.same s1
    have m2 : m1 ≠ l2 := fun z => by rw [z, wl.c2] at nm1; cases nm1
    refine ⟨x, dx, l1, l2, m1, n, n, r, g, hs, _, cs, rfl, w1, lc, em1, (by have := delAt_len hi; have := wl.few; omega), w1.x2, w1.ne, m2, fun t H' nt bu et w' => ?_⟩
    exact q t m1 H' (s1.free nt) (.inl nm1) (fun c o h1 h2 e => bu c o h1 h2 (s1 _ _ e)) et w'
def sp_shift (C : Addr) : Sp := fun vs H Q _ => ∃ (x dx l1 l2 : Addr) (n : Int) (r : Bool) (g : Int) (hs : List Int) (cs : List V) (i j : Nat) (v : Int), vs = [.ref x, .int i, .int j] ∧ Wl H x C dx l1 l2 n r g hs cs ∧ cs.length < 1000 ∧ hs[i]? = some v ∧ j < hs.length ∧ ChgQ C H x dx l1 l2 n n r g (insAt (delAt hs i) j v) cs fun H' => Q .non H'
theorem ok_Wall_shift (T : Txt K mg) : FnOk P w K mg base CX0 5 T.a_Wall_shift T.d_Wall_shift ["self", "index", "place"] (sp_shift T.C_Wall) := by
  refine T.F_Wall_shift.ok sc_Wall_shift (fun vs H Q E h => ?_) (fun cdv A outer s H vs Q E hr h => ?_)
  · obtain ⟨x, dx, l1, l2, n, r, g, hs, cs, i, j, v, rfl, _⟩ := h; rfl
  · obtain ⟨x, dx, l1, l2, n, r, g, hs, cs, i, j, v, rfl, wl, lc, hv, hj, q⟩ := h
    refine ⟨_, (pss_cons (ps_expr (pe_call (ok_check_index T) (hr.mono (by decide)) (by rfl) T.g_check_index T.F_check_index.kp T.b_check_index .nil pass0 (pa_cons (pv 1) (pa_cons (pe_callB call_len_seq (by rfl) T.z_len (by decide +kernel) (pa_cons (pe_fldA (pv 0)) pa_nil)) pa_nil))))
  (pss_cons (ps_expr (pe_call (ok_check_index T) (hr.mono (by decide)) (by rfl) T.g_check_index T.F_check_index.kp T.b_check_index .nil pass0 (pa_cons (pv 2) (pa_cons (pe_callB call_len_seq (by rfl) T.z_len (by decide +kernel) (pa_cons (pe_fldA (pv 0)) pa_nil)) pa_nil))))
  (pss_one (ps_expr (pe_meth (pv 0) T.cl_Wall T.me_Wall_change (ok_Wall_change T) (hr.mono (by decide)) T.b_Wall_change .nil pass0 (pa_cons (pe_fldA (pv 0)) (pa_cons (pe_call (ok_with_moved_item T) (hr.mono (by decide)) (by rfl) T.g_with_moved_item T.F_with_moved_item.kp T.b_with_moved_item .nil pass0 (pa_cons (pe_fldA (pv 0)) (pa_cons (pv 1) (pa_cons (pv 2) pa_nil)))) pa_nil))))))), ?_⟩
    have hi := get_lt hv
    refine ⟨.int i, rfl, .ref x, rfl, x, T.C_Wall, dx, _, .ref l1, rfl, wl.ob, T.cl_Wall, T.na_cards_Wall, rfl, l1, _, rfl, .inl (SqL.of wl.c1), i, _, rfl, by omega, (by rw [List.length_map]; omega), ?_⟩
    refine ⟨.int j, rfl, .ref x, rfl, x, T.C_Wall, dx, _, .ref l1, rfl, wl.ob, T.cl_Wall, T.na_cards_Wall, rfl, l1, _, rfl, .inl (SqL.of wl.c1), j, _, rfl, by omega, (by rw [List.length_map]; omega), ?_⟩
    refine ⟨.ref x, rfl, x, dx, _, rfl, wl.ob, rfl, .ref x, rfl, x, T.C_Wall, dx, _, .int n, rfl, wl.ob, T.cl_Wall, T.na_columns_Wall, rfl, .ref x, rfl, x, T.C_Wall, dx, _, .ref l1, rfl, wl.ob, T.cl_Wall, T.na_cards_Wall, rfl, .int i, rfl, .int j, rfl, l1, i, j, v, hs, rfl, SqL.of wl.c1, hv, hj, by have := wl.few; omega, fun H1 m1 s1 nm1 em1 => ?_⟩
    have w1 := wl.same s1
    have m2 : m1 ≠ l2 := fun z => by rw [z, wl.c2] at nm1; cases nm1
    refine ⟨x, dx, l1, l2, m1, n, n, r, g, hs, _, cs, rfl, w1, lc, em1, (by have := delAt_len hi; have := wl.few; rw [insAt_len (by omega)]; omega), w1.x2, w1.ne, m2, fun t H' nt bu et w' => ?_⟩
    exact q t m1 H' (s1.free nt) (.inl nm1) (fun c o h1 h2 e => bu c o h1 h2 (s1 _ _ e)) et w'
def sp_stretch (C : Addr) : Sp := fun vs H Q _ => ∃ (x dx l1 l2 : Addr) (n : Int) (r : Bool) (g : Int) (hs : List Int) (cs : List V) (i : Nat) (h : Int), vs = [.ref x, .int i, .int h] ∧ Wl H x C dx l1 l2 n r g hs cs ∧ cs.length < 1000 ∧ i < hs.length ∧ 1 ≤ h ∧ h ≤ big ∧ ChgQ C H x dx l1 l2 n n r g (insAt (delAt hs i) i h) cs fun H' => Q .non H'
theorem ok_Wall_stretch (T : Txt K mg) : FnOk P w K mg base CX0 5 T.a_Wall_stretch T.d_Wall_stretch ["self", "index", "height"] (sp_stretch T.C_Wall) := by
  refine T.F_Wall_stretch.ok sc_Wall_stretch (fun vs H Q E h => ?_) (fun cdv A outer s H vs Q E hr h => ?_)
  · obtain ⟨x, dx, l1, l2, n, r, g, hs, cs, i, h, rfl, _⟩ := h; rfl
  · obtain ⟨x, dx, l1, l2, n, r, g, hs, cs, i, h, rfl, wl, lc, hi, h1, h2, q⟩ := h
    refine ⟨_, (pss_cons (ps_expr (pe_call (ok_check_index T) (hr.mono (by decide)) (by rfl) T.g_check_index T.F_check_index.kp T.b_check_index .nil pass0 (pa_cons (pv 1) (pa_cons (pe_callB call_len_seq (by rfl) T.z_len (by decide +kernel) (pa_cons (pe_fldA (pv 0)) pa_nil)) pa_nil))))
  (pss_cons (ps_expr (pe_call (ok_check_height T) (hr.mono (by decide)) (by rfl) T.g_check_height T.F_check_height.kp T.b_check_height .nil pass0 (pa_cons (pv 2) pa_nil)))
  (pss_one (ps_expr (pe_meth (pv 0) T.cl_Wall T.me_Wall_change (ok_Wall_change T) (hr.mono (by decide)) T.b_Wall_change .nil pass0 (pa_cons (pe_fldA (pv 0)) (pa_cons (pe_call (ok_with_other_item T) (hr.mono (by decide)) (by rfl) T.g_with_other_item T.F_with_other_item.kp T.b_with_other_item .nil pass0 (pa_cons (pe_fldA (pv 0)) (pa_cons (pv 1) (pa_cons (pv 2) pa_nil)))) pa_nil))))))), ?_⟩
    refine ⟨.int i, rfl, .ref x, rfl, x, T.C_Wall, dx, _, .ref l1, rfl, wl.ob, T.cl_Wall, T.na_cards_Wall, rfl, l1, _, rfl, .inl (SqL.of wl.c1), i, _, rfl, by omega, (by rw [List.length_map]; omega), ?_⟩
    refine ⟨.int h, rfl, h, rfl, h1, h2, ?_⟩
    refine ⟨.ref x, rfl, x, dx, _, rfl, wl.ob, rfl, .ref x, rfl, x, T.C_Wall, dx, _, .int n, rfl, wl.ob, T.cl_Wall, T.na_columns_Wall, rfl, .ref x, rfl, x, T.C_Wall, dx, _, .ref l1, rfl, wl.ob, T.cl_Wall, T.na_cards_Wall, rfl, .int i, rfl, .int h, rfl, l1, i, h, hs, rfl, SqL.of wl.c1, hi, by have := wl.few; omega, fun H1 m1 s1 nm1 em1 => ?_⟩
    have w1 := wl.same s1
    have m2 : m1 ≠ l2 := fun z => by rw [z, wl.c2] at nm1; cases nm1
    refine ⟨x, dx, l1, l2, m1, n, n, r, g, hs, _, cs, rfl, w1, lc, em1, (by have := delAt_len hi; have := wl.few; rw [insAt_len (by omega)]; omega), w1.x2, w1.ne, m2, fun t H' nt bu et w' => ?_⟩
    exact q t m1 H' (s1.free nt) (.inl nm1) (fun c o h1 h2 e => bu c o h1 h2 (s1 _ _ e)) et w'
def sp_resize (C : Addr) : Sp := fun vs H Q _ => ∃ (x dx l1 l2 : Addr) (n : Int) (r : Bool) (g : Int) (hs : List Int) (cs : List V) (m : Int), vs = [.ref x, .int m] ∧ Wl H x C dx l1 l2 n r g hs cs ∧ cs.length < 1000 ∧ 1 ≤ m ∧ m ≤ 30 ∧ ChgQ C H x dx l1 l2 n m r g hs cs fun H' => Q .non H'
theorem ok_Wall_resize (T : Txt K mg) : FnOk P w K mg base CX0 5 T.a_Wall_resize T.d_Wall_resize ["self", "columns"] (sp_resize T.C_Wall) := by
  refine T.F_Wall_resize.ok sc_Wall_resize (fun vs H Q E h => ?_) (fun cdv A outer s H vs Q E hr h => ?_)
  · obtain ⟨x, dx, l1, l2, n, r, g, hs, cs, m, rfl, _⟩ := h; rfl
  · obtain ⟨x, dx, l1, l2, n, r, g, hs, cs, m, rfl, wl, lc, h1, h2, q⟩ := h
    refine ⟨_, (pss_cons (ps_expr (pe_call (ok_check_columns T) (hr.mono (by decide)) (by rfl) T.g_check_columns T.F_check_columns.kp T.b_check_columns .nil pass0 (pa_cons (pv 1) pa_nil)))
  (pss_one (ps_expr (pe_meth (pv 0) T.cl_Wall T.me_Wall_change (ok_Wall_change T) (hr.mono (by decide)) T.b_Wall_change .nil pass0 (pa_cons (pv 1) (pa_cons (pe_fldA (pv 0)) pa_nil)))))), ?_⟩
    refine ⟨.int m, rfl, m, rfl, h1, h2, ?_⟩
    refine ⟨.ref x, rfl, x, dx, _, rfl, wl.ob, rfl, .int m, rfl, .ref x, rfl, x, T.C_Wall, dx, _, .ref l1, rfl, wl.ob, T.cl_Wall, T.na_cards_Wall, rfl, x, dx, l1, l2, l1, n, m, r, g, hs, hs, cs, rfl, wl, lc, wl.c1, wl.few, wl.x2, wl.ne, wl.ne, fun t H' nt bu et w' => ?_⟩
    exact q t l1 H' nt (.inr rfl) bu et w'
/-- the last call -/
structure Lst (H : Hp) (t l2 : Addr) (l0 : Addr) (n0 : Int) (hs0 : List Int) : Prop where
  tp : H t = some (.tup [.int n0, .ref l0])
  c0 : H l0 = some (.lst (hs0.map V.int))
  few : hs0.length ≤ 200
  ne : l0 ≠ l2
def spUndo (C cH : Addr) : Sp := fun vs H Q E => ∃ (x dx l1 l2 : Addr) (n : Int) (r : Bool) (g : Int) (hs : List Int) (cs : List V), vs = [.ref x] ∧ Wl H x C dx l1 l2 n r g hs cs ∧ cs.length < 1000 ∧
  ((cs = [] ∧ E (.ref cH) none H) ∨ ∃ (t l0 : Addr) (n0 : Int) (hs0 : List Int) (cs0 : List V), cs = cs0 ++ [.ref t] ∧ Lst H t l2 l0 n0 hs0 ∧ ∀ H', ButW x l2 H H' → Wl H' x C dx l0 l2 n0 r g hs0 cs0 → Q .non H')
theorem okX_Wall_undo (T : Txt K mg) : FnOk P w K mg base (L2.CX P w) 5 T.a_Wall_undo T.d_Wall_undo ["self"] (spUndo T.C_Wall T.a_EmptyHistoryError) := by
  refine T.F_Wall_undo.okX sc_Wall_undo (fun vs H Q E h => ?_) (fun cdv A outer s H vs Q E hr h => ?_)
  · obtain ⟨x, dx, l1, l2, n, r, g, hs, cs, rfl, _⟩ := h; rfl
  · obtain ⟨x, dx, l1, l2, n, r, g, hs, cs, rfl, wl, lc, q⟩ := h
    refine ⟨_, (pss_cons (ps_if (pt_cmpR op_eq (pe_callB call_len_seq (by rfl) T.z_len (by decide +kernel) (pa_cons (pe_fldA (pv 0)) pa_nil)) pe_int (nomark _))
  (pss_one (ps_raise rfl (takes_of rfl rfl rfl rfl) (pmk_own PySem.F.excBase_ValueError T.e_EmptyHistoryError.ex T.e_EmptyHistoryError.g T.e_EmptyHistoryError.kp (raises_own T.e_EmptyHistoryError.cc.hs T.e_EmptyHistoryError.ty) rfl)))
  pss_nil)
  (pss_one (ps_asg (pe_bm0 PySem.F.plainAttrs_list PySem.F.slot_list_pop PySem.F.type_list_pop mt_pop (pe_fldA (pv 0))) (pg_tup rfl (pgs_cons (pg_fld (pv 0)) (pgs_cons (pg_fld (pv 0)) pgs_nil)))))), ?_⟩
    refine ⟨.ref x, rfl, x, T.C_Wall, dx, _, .ref l2, rfl, wl.ob, T.cl_Wall, T.na_calls_Wall, rfl, l2, _, rfl, .inl (SqL.of wl.c2), rfl, _, rfl, ?_⟩
    rcases q with ⟨rfl, q⟩ | ⟨t, l0, n0, hs0, cs0, rfl, ls, q⟩
    · exact iteT q
    · refine ite_f (by simp; omega) ?_
      have x2 := wl.x2
      refine ⟨.ref x, rfl, x, T.C_Wall, dx, _, .ref l2, rfl, wl.ob, T.cl_Wall, T.na_calls_Wall, rfl, .inl ⟨rfl, _, SqL.of wl.c2⟩, l2, _, .ref t, rfl, rfl, wl.c2, (by simp), ?_⟩
      rw [List.dropLast_concat]
      have e2 : (L2.upd H l2 (.lst cs0)) l2 = some (.lst cs0) := upd_same
      have b2 : ∀ c o, c ≠ l2 → H c = some o → (L2.upd H l2 (.lst cs0)) c = some o := fun c o hc e => by rw [upd_ne hc]; exact e
      generalize L2.upd H l2 _ = H2 at e2 b2 ⊢
      have tl : t ≠ l2 := fun z => by have := ls.tp; rw [z, wl.c2] at this; cases this
      have tx : t ≠ x := fun z => by have := ls.tp; rw [z, wl.ob] at this; cases this
      have lx : l0 ≠ x := fun z => by have := ls.c0; rw [z, wl.ob] at this; cases this
      have ob2 := b2 _ _ x2 wl.ob
      refine ⟨t, [_, _], rfl, SqT.of (b2 _ _ tl ls.tp), rfl, _, [_], rfl, .ref x, rfl, x, T.C_Wall, dx, _, rfl, ob2, T.cl_Wall, T.na_columns_Wall, (by simp [wlF]), ?_⟩
      have e3 : (L2.upd H2 x (.ins T.C_Wall dx (putF "_columns" (.int n0) (wlF n r g l1 l2)))) x = some (.ins T.C_Wall dx (wlF n0 r g l1 l2)) := upd_same
      have b3 : ∀ c o, c ≠ x → c ≠ l2 → H c = some o → (L2.upd H2 x (.ins T.C_Wall dx (putF "_columns" (.int n0) (wlF n r g l1 l2)))) c = some o := fun c o h1 h2 e => by rw [upd_ne h1]; exact b2 _ _ h2 e
      have e4 : (L2.upd H2 x (.ins T.C_Wall dx (putF "_columns" (.int n0) (wlF n r g l1 l2)))) l2 = some (.lst cs0) := by rw [upd_ne (Ne.symm x2)]; exact e2
      generalize L2.upd H2 x _ = H3 at e3 b3 e4 ⊢
      refine ⟨_, [], rfl, .ref x, rfl, x, T.C_Wall, dx, _, rfl, e3, T.cl_Wall, T.na_cards_Wall, (by simp [wlF]), rfl, ?_⟩
      exact q _ (fun c o h1 h2 e => by rw [upd_ne h1]; exact b3 c o h1 h2 e) ⟨upd_same, by rw [upd_ne lx]; exact b3 _ _ lx ls.ne ls.c0, by rw [upd_ne (Ne.symm x2)]; exact e4, ls.few, ls.ne⟩
end

section
variable {P : Program} {w : World} {K : PySem.W.Frag} {mg : Str → Option Value} {base : Heap}
def spTrd0 (C : Addr) : Sp := fun vs H Q _ => ∃ (x dx l1 l2 p : Addr) (n : Nat) (r : Bool) (g : Int) (hs ks : List Int) (cs : List V), vs = [.ref x, .ref p] ∧ Wl H x C dx l1 l2 n r g hs cs ∧ H p = some (.tup (ks.map V.int)) ∧
  (∀ k ∈ ks, 1 ≤ k ∧ k ≤ big) ∧ hs.length + ks.length ≤ 200 ∧ 1 ≤ n ∧ n ≤ 30 ∧ ∀ H' c, Same H H' → H c = none → H' c = some (.lst (((colsV r g n (hs ++ ks)).drop hs.length).map V.int)) → Q (.ref c) H'
theorem ok_Wall_tried (T : Txt K mg) : FnR P w K mg base CX0 5 T.a_Wall_tried (fun vs H Q E => ∃ ws rest, vs = ws ++ rest ∧ ws.length = ["self"].length ∧ rest.length ≤ sizeLine ∧ ∀ p, H p = Option.none → spTrd0 T.C_Wall (ws ++ [V.ref p]) (L2.upd H p (.tup rest)) Q E) := by
  refine fn_star1 T.F_Wall_tried sc_Wall_tried (fun _ _ _ _ _ _ _ => rfl) (fun _ _ _ _ _ _ _ _ _ => rfl) (fun cdv A outer s H vs Q E hr h => ?_)
  obtain ⟨x, dx, l1, l2, p, n, r, g, hs, ks, cs, rfl, wl, ep, hk, le, n1, n2, q⟩ := h
  refine ⟨_, (pss_cons (ps_for PassesOwn.never rfl (pi_tup (pv 1)) (pg_name (i := 2) sc_Wall_tried.nd rfl (.inl rfl))
  (pss_one (ps_expr (pe_call (ok_check_height T) (hr.mono (by decide)) (by rfl) T.g_check_height T.F_check_height.kp T.b_check_height .nil pass0 (pa_cons (pv 2) pa_nil)))))
  (pss_cons (ps_expr (pe_meth (pv 0) T.cl_Wall T.me_Wall_check_room (ok_Wall_check_room T) (hr.mono (by decide)) T.b_Wall_check_room .nil pass0 (pa_cons (pe_callB call_len_seq (by rfl) T.z_len (by decide +kernel) (pa_cons (pv 1) pa_nil)) pa_nil)))
  (pss_cons (ps_set (i := 3) sc_Wall_tried.nd rfl (.inl rfl) (pe_meth (pv 0) T.cl_Wall T.me_Wall_places (ok_Wall_places T) (hr.mono (by decide)) T.b_Wall_places .nil pass0 (pa_cons (pe_op op_cat (pe_fldA (pv 0)) (pe_callTy call_list_of (by rfl) T.z_list (by decide +kernel) (pa_cons (pv 1) pa_nil))) pa_nil)))
  (pss_one (ps_ret (pe_lc (own := [("column", 4), ("top", 5)]) (g := (gTup K 2 (gCons (gName 4) (gCons (gName 5) gNil)))) rfl sc_Wall_tried.nd (pi_list (pe_slice sl_list (pv 3) (po_some (pe_callB call_len_seq (by rfl) T.z_len (by decide +kernel) (pa_cons (pe_fldA (pv 0)) pa_nil))) po_none)) (blkOk_by (own := [("column", 4), ("top", 5)]) (N := nm_Wall_tried) (sc := defScope s_Wall_tried) (by decide +kernel)) (fun _ _ _ _ _ => (pg_tup rfl (pgs_cons (pg_name (i := 4) sc_Wall_tried.nd rfl (.inl rfl)) (pgs_cons (pg_name (i := 5) sc_Wall_tried.nd rfl (.inl rfl)) pgs_nil)))) (fun _ _ _ _ _ => pts_nil) (fun _ _ _ _ _ => (pv 4)))))))), ?_⟩
  refine ⟨.ref p, rfl, p, rfl, ⟨_, SqT.of ep⟩, ?_⟩
  refine for_tup (K := K) (a := p) (xs := ks.map V.int) (fun i σ H1 => ∃ y2, σ = [some (.ref x), some (.ref p), y2, none, none, none] ∧ H = H1) ⟨none, rfl, rfl⟩ (fun i σ H1 _ h => ?_) (fun i v σ H1 e h => ?_) (fun σ H1 h => ?_)
  · obtain ⟨_, _, rfl⟩ := h; exact SqT.of ep
  · obtain ⟨y2, rfl, rfl⟩ := h
    obtain ⟨k, ek, rfl⟩ := get_map e
    obtain ⟨k1, k2⟩ := hk k (List.mem_of_getElem? ek)
    exact ⟨.int k, rfl, k, rfl, k1, k2, _, rfl, rfl⟩
  · obtain ⟨y2, rfl, rfl⟩ := h
    refine ⟨.ref x, rfl, x, dx, _, rfl, wl.ob, rfl, .ref p, rfl, p, _, rfl, .inr (SqT.of ep), x, dx, l1, l2, n, _, r, g, hs, cs, rfl, wl, (by rw [List.length_map]; omega), ?_⟩
    refine ⟨.ref x, rfl, x, dx, _, rfl, wl.ob, rfl, .ref x, rfl, x, T.C_Wall, dx, _, .ref l1, rfl, wl.ob, T.cl_Wall, T.na_cards_Wall, rfl, .ref p, rfl, p, _, rfl, .inr (SqT.of ep), fun m1 nm1 => ?_⟩
    have s1 := same_new (H := H) (p := m1) (.lst (ks.map V.int)) nm1
    have e1 : (L2.upd H m1 (.lst (ks.map V.int))) m1 = some (.lst (ks.map V.int)) := upd_same
    generalize L2.upd H m1 _ = H1 at s1 e1 ⊢
    have w1 := wl.same s1
    refine ⟨l1, m1, _, _, rfl, rfl, w1.c1, e1, (by rw [List.length_map, List.length_map]; exact small_le (m := 1000) (by omega) (by decide)), fun m2 nm2 => ?_⟩
    rw [← List.map_append]
    have s2 := s1.trans (same_new (H := H1) (p := m2) (.lst ((hs ++ ks).map V.int)) nm2)
    have e2 : (L2.upd H1 m2 (.lst ((hs ++ ks).map V.int))) m2 = some (.lst ((hs ++ ks).map V.int)) := upd_same
    generalize L2.upd H1 m2 _ = H2 at s2 e2 ⊢
    have w2 := wl.same s2
    refine ⟨x, dx, l1, l2, m2, n, r, g, hs, hs ++ ks, cs, rfl, w2, e2, by rw [List.length_append]; omega, n1, n2, fun H3 c l s3 nc ec pr => ?_⟩
    have w3 := w2.same s3
    refine ⟨.ref c, rfl, .ref x, rfl, x, T.C_Wall, dx, _, .ref l1, rfl, w3.ob, T.cl_Wall, T.na_cards_Wall, rfl, l1, _, rfl, .inl (SqL.of w3.c1), _, rfl, c, l, rfl, SqL.of ec, fun d nd => ?_⟩
    rw [List.length_map, cutV_from]
    have s4 := same_new (H := H3) (p := d) (.lst (l.drop hs.length)) nd
    have e4 : (L2.upd H3 d (.lst (l.drop hs.length))) d = some (.lst (l.drop hs.length)) := upd_same
    generalize L2.upd H3 d _ = H4 at s4 e4 ⊢
    refine ⟨d, rfl, ⟨_, SqL.of e4⟩, fun D nD => ?_⟩
    have S4 := s2.trans (s3.trans s4)
    refine lc_list (K := K) (a := d) (xs := l.drop hs.length) (fun i H' => Same H4 H' ∧ H' D = some (.lst ((((colsV r g n (hs ++ ks)).drop hs.length).take i).map V.int))) ⟨same_new _ nD, upd_same⟩ (fun i H' _ h => SqL.of (h.1 _ _ e4)) (fun i y H' e h => ?_) (fun H' h => ?_)
    · obtain ⟨sm, eD⟩ := h
      rw [List.getElem?_drop] at e
      have il : hs.length + i < (Lc.wl r g n (hs ++ ks)).length := by rw [← pr.1]; exact get_lt e
      obtain ⟨z, rfl, hz⟩ := pr.2 _ y _ e (List.getElem?_eq_getElem il)
      refine ⟨z, [_, _], rfl, SqT.of (sm _ _ (s4 _ _ hz)), rfl, _, [_], rfl, _, [], rfl, rfl, rfl, ?_⟩
      refine ⟨_, rfl, _, eD, ?_, same_set sm nD, ?_⟩
      · rw [List.length_map, List.length_take, List.length_drop, colsV_len, List.length_append]
        exact small_of (m := 1000) (by omega) (by decide)
      · rw [upd_same]
        refine congrArg (fun z => some (HO.lst z)) (take_map_succ V.int ?_)
        rw [List.getElem?_drop]
        unfold colsV
        rw [List.getElem?_map, List.getElem?_eq_getElem il]
        rfl
    · obtain ⟨sm, eD⟩ := h
      have e5 : (l.drop hs.length).length = ((colsV r g n (hs ++ ks)).drop hs.length).length := by rw [List.length_drop, List.length_drop, pr.1, wl_len, colsV_len]
      rw [e5, List.take_length] at eD
      exact q H' D (S4.trans sm) (S4.free nD) eD
def spAdd0 (C : Addr) : Sp := fun vs H Q _ => ∃ (x dx l1 l2 p : Addr) (n : Nat) (r : Bool) (g : Int) (hs ks : List Int) (cs : List V), vs = [.ref x, .ref p] ∧ Wl H x C dx l1 l2 n r g hs cs ∧ cs.length < 1000 ∧ H p = some (.tup (ks.map V.int)) ∧
  (∀ k ∈ ks, 1 ≤ k ∧ k ≤ big) ∧ hs.length + ks.length ≤ 200 ∧ 1 ≤ n ∧ n ≤ 30 ∧ ∀ c, H c = none → ChgQ C H x dx l1 l2 n n r g (hs ++ ks) cs fun H' => H' c = some (.lst (((colsV r g n (hs ++ ks)).drop hs.length).map V.int)) → Q (.ref c) H'
theorem ok_Wall_add (T : Txt K mg) : FnR P w K mg base CX0 7 T.a_Wall_add (fun vs H Q E => ∃ ws rest, vs = ws ++ rest ∧ ws.length = ["self"].length ∧ rest.length ≤ sizeLine ∧ ∀ p, H p = Option.none → spAdd0 T.C_Wall (ws ++ [V.ref p]) (L2.upd H p (.tup rest)) Q E) := by
  refine fn_star1 T.F_Wall_add sc_Wall_add (fun _ _ _ _ _ _ _ => rfl) (fun _ _ _ _ _ _ _ _ _ => rfl) (fun cdv A outer s H vs Q E hr h => ?_)
  obtain ⟨x, dx, l1, l2, p, n, r, g, hs, ks, cs, rfl, wl, lc, ep, hk, le, n1, n2, q⟩ := h
  refine ⟨_, (pss_cons (ps_set (i := 2) sc_Wall_add.nd rfl (.inl rfl) (pe_methS (pv 0) T.cl_Wall T.bm_Wall_tried (ok_Wall_tried T) (hr.mono (by decide)) pass0 (pv 1)))
  (pss_cons (ps_expr (pe_meth (pv 0) T.cl_Wall T.me_Wall_change (ok_Wall_change T) (hr.mono (by decide)) T.b_Wall_change .nil pass0 (pa_cons (pe_fldA (pv 0)) (pa_cons (pe_op op_cat (pe_fldA (pv 0)) (pe_callTy call_list_of (by rfl) T.z_list (by decide +kernel) (pa_cons (pv 1) pa_nil))) pa_nil))))
  (pss_one (ps_ret (pv 2))))), ?_⟩
  refine ⟨.ref x, rfl, x, dx, _, rfl, wl.ob, rfl, fun q1 nq1 => ?_⟩
  have s1 := same_new (H := H) (p := q1) (.met T.a_Wall_tried x) nq1
  have e1 : (L2.upd H q1 (.met T.a_Wall_tried x)) q1 = some (.met T.a_Wall_tried x) := upd_same
  generalize L2.upd H q1 _ = H1 at s1 e1 ⊢
  refine ⟨.ref p, rfl, p, ks.map V.int, rfl, SqT.of (s1 _ _ ep), e1, [.ref x], ks.map V.int, rfl, rfl, (by rw [List.length_map]; exact small_le (m := 1000) (by omega) (by decide)), fun p2 np2 => ?_⟩
  have s2 := s1.trans (same_new (H := H1) (p := p2) (.tup (ks.map V.int)) np2)
  refine ⟨x, dx, l1, l2, p2, n, r, g, hs, ks, cs, rfl, wl.same s2, upd_same, hk, le, n1, n2, fun H3 c s3 nc ec => ?_⟩
  have S3 := s2.trans s3
  have nc0 := s2.free nc
  have w3 := wl.same S3
  refine ⟨.ref x, rfl, x, dx, _, rfl, w3.ob, rfl, .ref x, rfl, x, T.C_Wall, dx, _, .int n, rfl, w3.ob, T.cl_Wall, T.na_columns_Wall, rfl, .ref x, rfl, x, T.C_Wall, dx, _, .ref l1, rfl, w3.ob, T.cl_Wall, T.na_cards_Wall, rfl, .ref p, rfl, p, _, rfl, .inr (SqT.of (S3 _ _ ep)), fun m1 nm1 => ?_⟩
  have s4 := S3.trans (same_new (H := H3) (p := m1) (.lst (ks.map V.int)) nm1)
  have e4 : (L2.upd H3 m1 (.lst (ks.map V.int))) m1 = some (.lst (ks.map V.int)) := upd_same
  have ec4 := (same_new (H := H3) (p := m1) (.lst (ks.map V.int)) nm1) _ _ ec
  generalize L2.upd H3 m1 _ = H4 at s4 e4 ec4 ⊢
  have w4 := wl.same s4
  refine ⟨l1, m1, _, _, rfl, rfl, w4.c1, e4, (by rw [List.length_map, List.length_map]; exact small_le (m := 1000) (by omega) (by decide)), fun m2 nm2 => ?_⟩
  rw [← List.map_append]
  have s5 := s4.trans (same_new (H := H4) (p := m2) (.lst ((hs ++ ks).map V.int)) nm2)
  have e5 : (L2.upd H4 m2 (.lst ((hs ++ ks).map V.int))) m2 = some (.lst ((hs ++ ks).map V.int)) := upd_same
  have ec5 := (same_new (H := H4) (p := m2) (.lst ((hs ++ ks).map V.int)) nm2) _ _ ec4
  have nm20 := s4.free nm2
  generalize L2.upd H4 m2 _ = H5 at s5 e5 ec5 ⊢
  have w5 := wl.same s5
  have m2l : m2 ≠ l2 := fun z => by rw [z, wl.c2] at nm20; cases nm20
  refine ⟨x, dx, l1, l2, m2, n, n, r, g, hs, hs ++ ks, cs, rfl, w5, lc, e5, by rw [List.length_append]; omega, w5.x2, w5.ne, m2l, fun t H' nt bu et w' => ?_⟩
  have cx : c ≠ x := fun z => by rw [z, wl.ob] at nc0; cases nc0
  have cl : c ≠ l2 := fun z => by rw [z, wl.c2] at nc0; cases nc0
  exact ⟨.ref c, rfl, q c nc0 t m2 H' (s5.free nt) (.inl nm20) (fun d o h1 h2 e => bu d o h1 h2 (s5 _ _ e)) et w' (bu _ _ cx cl ec5)⟩
end

section
variable {P : Program} {w : World} {K : PySem.W.Frag} {mg : Str → Option Value} {base : Heap}
/-! ### the law's own comparison, of equal data -/
def spSm (R : Hp → V → V → Prop) : Sp := fun vs H Q _ => ∃ x y : V, vs = [x, y] ∧ R H x y ∧ ∀ H', Same H H' → Q (.bl true) H'
def RI : Hp → V → V → Prop := fun _ x y => ∃ i : Int, x = .int i ∧ y = .int i
def RL (R : Hp → V → V → Prop) : Hp → V → V → Prop := fun H x y => ∃ (a b : Addr) (xs ys : List V), x = .ref a ∧ y = .ref b ∧ H a = some (.lst xs) ∧ H b = some (.lst ys) ∧ xs.length = ys.length ∧ xs.length ≤ 1000 ∧
  ∀ (i : Nat) (v u : V), xs[i]? = some v → ys[i]? = some u → R H v u
def RT (R : Hp → V → V → Prop) : Hp → V → V → Prop := fun H x y => ∃ (a b : Addr) (xs ys : List V), x = .ref a ∧ y = .ref b ∧ H a = some (.tup xs) ∧ H b = some (.tup ys) ∧ xs.length = ys.length ∧ xs.length ≤ 1000 ∧
  ∀ (i : Nat) (v u : V), xs[i]? = some v → ys[i]? = some u → R H v u
def Stab (R : Hp → V → V → Prop) : Prop := ∀ H H' x y, R H x y → Same H H' → R H' x y
theorem stab_RI : Stab RI := fun _ _ _ _ h _ => h
theorem stab_RL {R : Hp → V → V → Prop} (h : Stab R) : Stab (RL R) := fun H H' x y ⟨a, b, xs, ys, e1, e2, ha, hb, hl, hz, hr⟩ s =>
  ⟨a, b, xs, ys, e1, e2, s _ _ ha, s _ _ hb, hl, hz, fun i v u h1 h2 => h _ _ _ _ (hr i v u h1 h2) s⟩
theorem stab_RT {R : Hp → V → V → Prop} (h : Stab R) : Stab (RT R) := fun H H' x y ⟨a, b, xs, ys, e1, e2, ha, hb, hl, hz, hr⟩ s =>
  ⟨a, b, xs, ys, e1, e2, s _ _ ha, s _ _ hb, hl, hz, fun i v u h1 h2 => h _ _ _ _ (hr i v u h1 h2) s⟩
theorem rt_pair {H : Hp} {a b : Addr} {x y : Int} (ha : H a = some (.tup [.int x, .int y])) (hb : H b = some (.tup [.int x, .int y])) : RT RI H (.ref a) (.ref b) :=
  ⟨a, b, _, _, rfl, rfl, ha, hb, rfl, by show 2 ≤ 1000; decide, fun i v u h1 h2 => by
    rw [h1] at h2
    cases h2
    have : i < 2 := get_lt h1
    have : i = 0 ∨ i = 1 := by omega
    rcases this with rfl | rfl <;> (cases h1; exact ⟨_, rfl, rfl⟩)⟩
theorem rl_two {R : Hp → V → V → Prop} {H : Hp} {a b : Addr} {x1 x2 y1 y2 : V} (ha : H a = some (.lst [x1, x2])) (hb : H b = some (.lst [y1, y2])) (h1 : R H x1 y1) (h2 : R H x2 y2) : RL R H (.ref a) (.ref b) :=
  ⟨a, b, _, _, rfl, rfl, ha, hb, rfl, by show 2 ≤ 1000; decide, fun i v u e1 e2 => by
    have : i < 2 := get_lt e1
    have : i = 0 ∨ i = 1 := by omega
    rcases this with rfl | rfl <;> (cases e1; cases e2; assumption)⟩
theorem rl_ints {H : Hp} {a b : Addr} {ns : List Int} (ha : H a = some (.lst (ns.map V.int))) (hb : H b = some (.lst (ns.map V.int))) (hl : ns.length ≤ 1000) : RL RI H (.ref a) (.ref b) :=
  ⟨a, b, _, _, rfl, rfl, ha, hb, rfl, by rw [List.length_map]; exact hl, fun i v u h1 h2 => by
    rw [h1] at h2
    cases h2
    obtain ⟨n, _, rfl⟩ := get_map h1
    exact ⟨n, rfl, rfl⟩⟩
theorem no_fn {k : Nat} {f : Addr} {fd : FuncData} {ps : List Str} : FnOk P w K mg base CX0 k f fd ps (fun _ _ _ _ => False) := ⟨fun _ _ _ _ h => h.elim, fun _ _ _ _ _ _ _ _ _ _ _ _ _ h => h.elim⟩
theorem kitFF {t A B : String} (h1 : kitB t A = some false) (h2 : kitB t B = some false) : PySem.W.kitAny K (.type t) [.type A, .type B] = some false :=
  kitAny_cons (kit_ty h1) (fun _ => kitAny_cons (kit_ty h2) (fun _ => rfl) (fun h => by cases h)) (fun h => by cases h)
theorem kitT1 {t A B : String} (h1 : kitB t A = some true) : PySem.W.kitAny K (.type t) [.type A, .type B] = some true :=
  kitAny_cons (kit_ty h1) (fun h => by cases h) (fun _ => rfl)
theorem kitT2 {t A B : String} (h1 : kitB t A = some false) (h2 : kitB t B = some true) : PySem.W.kitAny K (.type t) [.type A, .type B] = some true :=
  kitAny_cons (kit_ty h1) (fun _ => kitAny_cons (kit_ty h2) (fun h => by cases h) (fun _ => rfl)) (fun h => by cases h)

theorem same_none (T : Txt K mg) : FnOk P w K mg base CX0 1 T.a_law_same T.d_law_same ["found", "expected"] (spSm fun _ x y => x = .non ∧ y = .non) := by
  have F_self : FnOk P w K mg base CX0 0 T.a_law_same T.d_law_same ["found", "expected"] (fun _ _ _ _ => False) := no_fn
  refine T.F_law_same.ok sc_law_same (fun vs H Q E h => ?_) (fun cdv A outer s H vs Q E hr h => ?_)
  · obtain ⟨x, y, rfl, _⟩ := h; rfl
  · obtain ⟨x, y, rfl, ⟨rfl, rfl⟩, q⟩ := h
    refine ⟨_, (pss_cons (ps_if (pt_cmpR op_isN (pv 1) pe_non (nomark _))
  (pss_one (ps_ret (pe_cmpR op_isN (pv 0) pe_non (nomark _))))
  pss_nil)
  (pss_cons (ps_if (pt_val (pe_callB call_isiT (by rfl) T.z_isinstance (by decide +kernel) (pa_cons (pv 1) (pa_cons (pe_tup (pa_cons (pe_bltn (v := .ty "list") (by rfl) T.z_list (by decide +kernel) rfl) (pa_cons (pe_bltn (v := .ty "tuple") (by rfl) T.z_tuple (by decide +kernel) rfl) pa_nil))) pa_nil))))
  (pss_cons (ps_if (PW.pt (pw_or (pt_not (pt_val (pe_callB call_isiT (by rfl) T.z_isinstance (by decide +kernel) (pa_cons (pv 0) (pa_cons (pe_tup (pa_cons (pe_bltn (v := .ty "list") (by rfl) T.z_list (by decide +kernel) rfl) (pa_cons (pe_bltn (v := .ty "tuple") (by rfl) T.z_tuple (by decide +kernel) rfl) pa_nil))) pa_nil))))) (pw_or1 (pt_cmpR op_ne (pe_callB call_isi (by rfl) T.z_isinstance (by decide +kernel) (pa_cons (pv 0) (pa_cons (pe_bltn (v := .ty "list") (by rfl) T.z_list (by decide +kernel) rfl) pa_nil))) (pe_callB call_isi (by rfl) T.z_isinstance (by decide +kernel) (pa_cons (pv 1) (pa_cons (pe_bltn (v := .ty "list") (by rfl) T.z_list (by decide +kernel) rfl) pa_nil))) (nomark _)))))
  (pss_one (ps_ret pe_bl))
  pss_nil)
  (pss_cons (ps_if (pt_cmpR op_ne (pe_callB call_len_seq (by rfl) T.z_len (by decide +kernel) (pa_cons (pv 0) pa_nil)) (pe_callB call_len_seq (by rfl) T.z_len (by decide +kernel) (pa_cons (pv 1) pa_nil)) (nomark _))
  (pss_one (ps_ret pe_bl))
  pss_nil)
  (pss_one (ps_ret (pe_callB (cr_all rfl) (by rfl) T.z_all (by decide +kernel) (pa_cons (pe_lc (own := [("one", 2), ("other", 3)]) (g := (gTup K 2 (gCons (gName 2) (gCons (gName 3) gNil)))) rfl sc_law_same.nd (pi_zip (by rfl) T.z_zip (pa_cons (pv 0) (pa_cons (pv 1) pa_nil))) (blkOk_by (own := [("one", 2), ("other", 3)]) (N := nm_law_same) (sc := defScope s_law_same) (by decide +kernel)) (fun _ _ _ _ _ => (pg_tup rfl (pgs_cons (pg_name (i := 2) sc_law_same.nd rfl (.inl rfl)) (pgs_cons (pg_name (i := 3) sc_law_same.nd rfl (.inl rfl)) pgs_nil)))) (fun _ _ _ _ _ => pts_nil) (fun _ _ _ _ _ => (pe_call F_self hr (by rfl) T.g_law_same T.F_law_same.kp T.b_law_same .nil pass0 (pa_cons (pv 2) (pa_cons (pv 3) pa_nil))))) pa_nil))))))
  pss_nil)
  (pss_one (ps_ret (pe_and (pe_cmpR op_eq (pe_callB call_isi (by rfl) T.z_isinstance (by decide +kernel) (pa_cons (pv 0) (pa_cons (pe_bltn (v := .ty "bool") (by rfl) T.z_bool (by decide +kernel) rfl) pa_nil))) (pe_callB call_isi (by rfl) T.z_isinstance (by decide +kernel) (pa_cons (pv 1) (pa_cons (pe_bltn (v := .ty "bool") (by rfl) T.z_bool (by decide +kernel) rfl) pa_nil))) (nomark _)) (pe_one (pe_cmpR op_eq (pv 0) (pv 1) (nomark _)))))))), ?_⟩
    exact ⟨.non, rfl, rfl, _, rfl, ite_t (by simp) ⟨.non, rfl, rfl, q H (Same.refl H)⟩⟩
theorem same_int (T : Txt K mg) : FnOk P w K mg base CX0 1 T.a_law_same T.d_law_same ["found", "expected"] (spSm RI) := by
  have F_self : FnOk P w K mg base CX0 0 T.a_law_same T.d_law_same ["found", "expected"] (fun _ _ _ _ => False) := no_fn
  refine T.F_law_same.ok sc_law_same (fun vs H Q E h => ?_) (fun cdv A outer s H vs Q E hr h => ?_)
  · obtain ⟨x, y, rfl, _⟩ := h; rfl
  · obtain ⟨x, y, rfl, ⟨i, rfl, rfl⟩, q⟩ := h
    refine ⟨_, (pss_cons (ps_if (pt_cmpR op_isN (pv 1) pe_non (nomark _))
  (pss_one (ps_ret (pe_cmpR op_isN (pv 0) pe_non (nomark _))))
  pss_nil)
  (pss_cons (ps_if (pt_val (pe_callB call_isiT (by rfl) T.z_isinstance (by decide +kernel) (pa_cons (pv 1) (pa_cons (pe_tup (pa_cons (pe_bltn (v := .ty "list") (by rfl) T.z_list (by decide +kernel) rfl) (pa_cons (pe_bltn (v := .ty "tuple") (by rfl) T.z_tuple (by decide +kernel) rfl) pa_nil))) pa_nil))))
  (pss_cons (ps_if (PW.pt (pw_or (pt_not (pt_val (pe_callB call_isiT (by rfl) T.z_isinstance (by decide +kernel) (pa_cons (pv 0) (pa_cons (pe_tup (pa_cons (pe_bltn (v := .ty "list") (by rfl) T.z_list (by decide +kernel) rfl) (pa_cons (pe_bltn (v := .ty "tuple") (by rfl) T.z_tuple (by decide +kernel) rfl) pa_nil))) pa_nil))))) (pw_or1 (pt_cmpR op_ne (pe_callB call_isi (by rfl) T.z_isinstance (by decide +kernel) (pa_cons (pv 0) (pa_cons (pe_bltn (v := .ty "list") (by rfl) T.z_list (by decide +kernel) rfl) pa_nil))) (pe_callB call_isi (by rfl) T.z_isinstance (by decide +kernel) (pa_cons (pv 1) (pa_cons (pe_bltn (v := .ty "list") (by rfl) T.z_list (by decide +kernel) rfl) pa_nil))) (nomark _)))))
  (pss_one (ps_ret pe_bl))
  pss_nil)
  (pss_cons (ps_if (pt_cmpR op_ne (pe_callB call_len_seq (by rfl) T.z_len (by decide +kernel) (pa_cons (pv 0) pa_nil)) (pe_callB call_len_seq (by rfl) T.z_len (by decide +kernel) (pa_cons (pv 1) pa_nil)) (nomark _))
  (pss_one (ps_ret pe_bl))
  pss_nil)
  (pss_one (ps_ret (pe_callB (cr_all rfl) (by rfl) T.z_all (by decide +kernel) (pa_cons (pe_lc (own := [("one", 2), ("other", 3)]) (g := (gTup K 2 (gCons (gName 2) (gCons (gName 3) gNil)))) rfl sc_law_same.nd (pi_zip (by rfl) T.z_zip (pa_cons (pv 0) (pa_cons (pv 1) pa_nil))) (blkOk_by (own := [("one", 2), ("other", 3)]) (N := nm_law_same) (sc := defScope s_law_same) (by decide +kernel)) (fun _ _ _ _ _ => (pg_tup rfl (pgs_cons (pg_name (i := 2) sc_law_same.nd rfl (.inl rfl)) (pgs_cons (pg_name (i := 3) sc_law_same.nd rfl (.inl rfl)) pgs_nil)))) (fun _ _ _ _ _ => pts_nil) (fun _ _ _ _ _ => (pe_call F_self hr (by rfl) T.g_law_same T.F_law_same.kp T.b_law_same .nil pass0 (pa_cons (pv 2) (pa_cons (pv 3) pa_nil))))) pa_nil))))))
  pss_nil)
  (pss_one (ps_ret (pe_and (pe_cmpR op_eq (pe_callB call_isi (by rfl) T.z_isinstance (by decide +kernel) (pa_cons (pv 0) (pa_cons (pe_bltn (v := .ty "bool") (by rfl) T.z_bool (by decide +kernel) rfl) pa_nil))) (pe_callB call_isi (by rfl) T.z_isinstance (by decide +kernel) (pa_cons (pv 1) (pa_cons (pe_bltn (v := .ty "bool") (by rfl) T.z_bool (by decide +kernel) rfl) pa_nil))) (nomark _)) (pe_one (pe_cmpR op_eq (pv 0) (pv 1) (nomark _)))))))), ?_⟩
    refine ⟨.int i, rfl, rfl, _, rfl, ite_f (by simp) ?_⟩
    refine ⟨.int i, rfl, (by show 2 ≤ sizeLine; decide), fun tp ntp => ⟨.int i, tp, [.ty "list", .ty "tuple"], .type "int", [.type "list", .type "tuple"], false, rfl, upd_same, .cons (.ty _) (.cons (.ty _) .nil), .base (.int i), kitFF (by decide +kernel) (by decide +kernel), false, rfl, ?_⟩⟩
    have s1 := same_new (H := H) (p := tp) (.tup [.ty "list", .ty "tuple"]) ntp
    refine ⟨.int i, rfl, .int i, .ty "bool", .type "int", .type "bool", false, rfl, .ty _, .base (.int i), kit_ty (by decide +kernel), .int i, rfl, .int i, .ty "bool", .type "int", .type "bool", false, rfl, .ty _, .base (.int i), kit_ty (by decide +kernel), rfl, _, rfl, iteT ?_⟩
    refine ⟨.int i, rfl, .int i, rfl, rfl, ?_⟩
    show Q (.bl (decide (V.int i = V.int i))) _
    rw [decide_eq_true rfl]
    exact q _ s1
theorem same_list (T : Txt K mg) {k : Nat} {R : Hp → V → V → Prop} (F_self : FnOk P w K mg base CX0 k T.a_law_same T.d_law_same ["found", "expected"] (spSm R)) (st : Stab R) :
    FnOk P w K mg base CX0 (k + 1) T.a_law_same T.d_law_same ["found", "expected"] (spSm (RL R)) := by
  refine T.F_law_same.ok sc_law_same (fun vs H Q E h => ?_) (fun cdv A outer s H vs Q E hr h => ?_)
  · obtain ⟨x, y, rfl, _⟩ := h; rfl
  · obtain ⟨x, y, rfl, ⟨a, b, xs, ys, rfl, rfl, ha, hb, hl, hz, hR⟩, q⟩ := h
    refine ⟨_, (pss_cons (ps_if (pt_cmpR op_isN (pv 1) pe_non (nomark _))
  (pss_one (ps_ret (pe_cmpR op_isN (pv 0) pe_non (nomark _))))
  pss_nil)
  (pss_cons (ps_if (pt_val (pe_callB call_isiT (by rfl) T.z_isinstance (by decide +kernel) (pa_cons (pv 1) (pa_cons (pe_tup (pa_cons (pe_bltn (v := .ty "list") (by rfl) T.z_list (by decide +kernel) rfl) (pa_cons (pe_bltn (v := .ty "tuple") (by rfl) T.z_tuple (by decide +kernel) rfl) pa_nil))) pa_nil))))
  (pss_cons (ps_if (PW.pt (pw_or (pt_not (pt_val (pe_callB call_isiT (by rfl) T.z_isinstance (by decide +kernel) (pa_cons (pv 0) (pa_cons (pe_tup (pa_cons (pe_bltn (v := .ty "list") (by rfl) T.z_list (by decide +kernel) rfl) (pa_cons (pe_bltn (v := .ty "tuple") (by rfl) T.z_tuple (by decide +kernel) rfl) pa_nil))) pa_nil))))) (pw_or1 (pt_cmpR op_ne (pe_callB call_isi (by rfl) T.z_isinstance (by decide +kernel) (pa_cons (pv 0) (pa_cons (pe_bltn (v := .ty "list") (by rfl) T.z_list (by decide +kernel) rfl) pa_nil))) (pe_callB call_isi (by rfl) T.z_isinstance (by decide +kernel) (pa_cons (pv 1) (pa_cons (pe_bltn (v := .ty "list") (by rfl) T.z_list (by decide +kernel) rfl) pa_nil))) (nomark _)))))
  (pss_one (ps_ret pe_bl))
  pss_nil)
  (pss_cons (ps_if (pt_cmpR op_ne (pe_callB call_len_seq (by rfl) T.z_len (by decide +kernel) (pa_cons (pv 0) pa_nil)) (pe_callB call_len_seq (by rfl) T.z_len (by decide +kernel) (pa_cons (pv 1) pa_nil)) (nomark _))
  (pss_one (ps_ret pe_bl))
  pss_nil)
  (pss_one (ps_ret (pe_callB (cr_all rfl) (by rfl) T.z_all (by decide +kernel) (pa_cons (pe_lc (own := [("one", 2), ("other", 3)]) (g := (gTup K 2 (gCons (gName 2) (gCons (gName 3) gNil)))) rfl sc_law_same.nd (pi_zip (by rfl) T.z_zip (pa_cons (pv 0) (pa_cons (pv 1) pa_nil))) (blkOk_by (own := [("one", 2), ("other", 3)]) (N := nm_law_same) (sc := defScope s_law_same) (by decide +kernel)) (fun _ _ _ _ _ => (pg_tup rfl (pgs_cons (pg_name (i := 2) sc_law_same.nd rfl (.inl rfl)) (pgs_cons (pg_name (i := 3) sc_law_same.nd rfl (.inl rfl)) pgs_nil)))) (fun _ _ _ _ _ => pts_nil) (fun _ _ _ _ _ => (pe_call F_self hr (by rfl) T.g_law_same T.F_law_same.kp T.b_law_same .nil pass0 (pa_cons (pv 2) (pa_cons (pv 3) pa_nil))))) pa_nil))))))
  pss_nil)
  (pss_one (ps_ret (pe_and (pe_cmpR op_eq (pe_callB call_isi (by rfl) T.z_isinstance (by decide +kernel) (pa_cons (pv 0) (pa_cons (pe_bltn (v := .ty "bool") (by rfl) T.z_bool (by decide +kernel) rfl) pa_nil))) (pe_callB call_isi (by rfl) T.z_isinstance (by decide +kernel) (pa_cons (pv 1) (pa_cons (pe_bltn (v := .ty "bool") (by rfl) T.z_bool (by decide +kernel) rfl) pa_nil))) (nomark _)) (pe_one (pe_cmpR op_eq (pv 0) (pv 1) (nomark _)))))))), ?_⟩
    refine ⟨.ref b, rfl, rfl, _, rfl, ite_f (by simp) ?_⟩
    refine ⟨.ref b, rfl, (by show 2 ≤ sizeLine; decide), fun tp ntp => ⟨.ref b, tp, [.ty "list", .ty "tuple"], .type "list", [.type "list", .type "tuple"], true, rfl, upd_same, .cons (.ty _) (.cons (.ty _) .nil), .base (.lst (same_new _ ntp _ _ hb)), kitT1 (by decide +kernel), true, rfl, ?_⟩⟩
    have s1 := same_new (H := H) (p := tp) (.tup [.ty "list", .ty "tuple"]) ntp
    have ha1 := s1 _ _ ha
    have hb1 := s1 _ _ hb
    generalize upd H tp (.tup [.ty "list", .ty "tuple"]) = H1 at s1 ha1 hb1 ⊢
    refine ⟨.ref a, rfl, (by show 2 ≤ sizeLine; decide), fun tp2 ntp2 => ⟨.ref a, tp2, [.ty "list", .ty "tuple"], .type "list", [.type "list", .type "tuple"], true, rfl, upd_same, .cons (.ty _) (.cons (.ty _) .nil), .base (.lst (same_new _ ntp2 _ _ ha1)), kitT1 (by decide +kernel), true, rfl, iteF ?_⟩⟩
    have s2 := s1.trans (same_new (H := H1) (p := tp2) (.tup [.ty "list", .ty "tuple"]) ntp2)
    have ha2 := s2 _ _ ha
    have hb2 := s2 _ _ hb
    generalize upd H1 tp2 (.tup [.ty "list", .ty "tuple"]) = H2 at s2 ha2 hb2 ⊢
    refine ⟨.ref a, rfl, .ref a, .ty "list", .type "list", .type "list", true, rfl, .ty _, .base (.lst ha2), kit_ty (by decide +kernel), .ref b, rfl, .ref b, .ty "list", .type "list", .type "list", true, rfl, .ty _, .base (.lst hb2), kit_ty (by decide +kernel), rfl, _, rfl, ite_f (by simp) ?_⟩
    refine ⟨.ref a, rfl, a, xs, rfl, .inl (SqL.of ha2), .ref b, rfl, b, ys, rfl, .inl (SqL.of hb2), rfl, _, rfl, ite_f (by simp [hl]) ?_⟩
    refine ⟨.ref a, rfl, .ref b, rfl, a, b, xs, ys, rfl, SqL.of ha2, SqL.of hb2, fun D nD => ?_⟩
    refine lc_zip (K := K) (a := a) (b := b) (xs := xs) (ys := ys) hl (fun i H' => Same H2 H' ∧ H' D = some (.lst ((List.replicate i true).map V.bl))) ⟨same_new _ nD, upd_same⟩ (fun i H' _ h => ⟨SqL.of (h.1 _ _ ha2), SqL.of (h.1 _ _ hb2)⟩) (fun i x y H' Tp ex ey h nT => ?_) (fun H' h => ?_)
    · have sT := same_new (H := H') (p := Tp) (.tup [x, y]) nT
      refine ⟨Tp, [_, _], rfl, SqT.of upd_same, rfl, _, [_], rfl, _, [], rfl, rfl, rfl, ?_⟩
      refine ⟨x, rfl, y, rfl, x, y, rfl, st _ _ _ _ (hR i x y ex ey) (s2.trans (h.1.trans sT)), fun H3 s3 => ?_⟩
      have il := get_lt ex
      refine ⟨_, s3 _ _ (sT _ _ h.2), ?_, same_set (h.1.trans (sT.trans s3)) nD, ?_⟩
      · rw [List.length_map, List.length_replicate]; exact small_of (m := 1000) (by omega) (by decide)
      · rw [upd_same, List.replicate_succ', List.map_append]; rfl
    · refine ⟨D, List.replicate xs.length true, rfl, SqL.of h.2, ?_⟩
      have e : (List.replicate xs.length true).all id = true := List.all_eq_true.mpr fun b hb => by rw [(List.mem_replicate.mp hb).2]; rfl
      show Q (.bl ((List.replicate xs.length true).all id)) H'
      rw [e]
      exact q H' (s2.trans h.1)
theorem fn_or {k k' : Nat} {f : Addr} {fd : FuncData} {ps : List Str} {sp1 sp2 : Sp} (F1 : FnOk P w K mg base CX0 k f fd ps sp1) (F2 : FnOk P w K mg base CX0 k' f fd ps sp2) (hk : k' ≤ k) : FnOk P w K mg base CX0 k f fd ps (fun vs H Q E => sp1 vs H Q E ∨ sp2 vs H Q E) :=
  ⟨fun vs H Q E h => h.elim (F1.len vs H Q E) (F2.len vs H Q E), fun A o s H a us vs Q E hr e0 hb r h => by
    rcases h with h | h
    · exact F1.run A o s H a us vs Q E hr e0 hb r h
    · exact F2.run A o s H a us vs Q E (hr.mono hk) e0 hb r h⟩

theorem FnOk.up {k k' : Nat} {f : Addr} {fd : FuncData} {ps : List Str} {sp : Sp} (F : FnOk P w K mg base CX0 k f fd ps sp) (h : k ≤ k') : FnOk P w K mg base CX0 k' f fd ps sp :=
  ⟨F.len, fun A o s H a us vs Q E hr e0 hb r hh => F.run A o s H a us vs Q E (hr.mono h) e0 hb r hh⟩
/-- what is told of a wall: lists of ints, then ints -/
def RIL : Hp → V → V → Prop := fun H x y => RI H x y ∨ RL RI H x y
theorem stab_RIL : Stab RIL := fun H H' x y h s => h.imp (fun h => stab_RI _ _ _ _ h s) fun h => stab_RL stab_RI _ _ _ _ h s
/-- nothing, a list of ints, or what is told of a wall -/
def RS : Hp → V → V → Prop := fun H x y => (x = .non ∧ y = .non) ∨ RL RI H x y ∨ RL RIL H x y
theorem ok_law_same (T : Txt K mg) : FnOk P w K mg base CX0 4 T.a_law_same T.d_law_same ["found", "expected"] (spSm RS) := by
  have F2 := same_list T (P := P) (w := w) (base := base) (same_int T) stab_RI
  have FI : FnOk P w K mg base CX0 2 T.a_law_same T.d_law_same ["found", "expected"] (spSm RIL) := by
    have q := fn_or F2 (same_int T) (by decide)
    exact ⟨fun vs H Q E h => by obtain ⟨x, y, rfl, _⟩ := h; rfl, fun A o s H a us vs Q E hr e0 hb r h => q.run A o s H a us vs Q E hr e0 hb r (by
      obtain ⟨x, y, e, hR, c⟩ := h
      rcases hR with hR | hR
      · exact .inr ⟨x, y, e, hR, c⟩
      · exact .inl ⟨x, y, e, hR, c⟩)⟩
  have F3 := same_list T FI stab_RIL
  have q := fn_or (fn_or F3 F2 (by decide)) (same_none T) (by decide)
  have z : FnOk P w K mg base CX0 3 T.a_law_same T.d_law_same ["found", "expected"] (spSm RS) := ⟨fun vs H Q E h => by obtain ⟨x, y, rfl, _⟩ := h; rfl, fun A o s H a us vs Q E hr e0 hb r h => q.run A o s H a us vs Q E hr e0 hb r (by
      obtain ⟨x, y, e, hR, c⟩ := h
      rcases hR with hR | hR | hR
      · exact .inr ⟨x, y, e, hR, c⟩
      · exact .inl (.inr ⟨x, y, e, hR, c⟩)
      · exact .inl (.inl ⟨x, y, e, hR, c⟩))⟩
  exact FnOk.up z (by decide)
end

section
variable {P : Program} {w : World} {K : PySem.W.Frag} {mg : Str → Option Value} {base : Heap}
theorem cut_toG {xs : List Int} {k : Nat} : cutV (xs.map V.int) none (some (k : Int)) = (xs.take k).map V.int := by
  rcases Nat.le_total k xs.length with h | h
  · exact cut_to h
  · unfold cutV
    rw [HT.sIx_nat, HT.sIx_none, List.length_map, Nat.min_eq_right h, ← List.map_drop, ← List.map_take, List.take_of_length_le h]
    show ((xs.drop 0).take (xs.length - 0)).map V.int = _
    rw [List.drop_zero, Nat.sub_zero, List.take_length]
end

section
variable {P : Program} {w : World} {K : PySem.W.Frag} {mg : Str → Option Value} {base : Heap}
theorem e33 : ((10 : Int) ^ (33 : Int).toNat + 61) = 1000000000000000000000000000000061 := by decide +kernel
theorem e38 : ((10 : Int) ^ (38 : Int).toNat + 133) = 100000000000000000000000000000000000133 := by decide +kernel
theorem fmod_lt {i j : Int} (h : 0 < j) : 0 ≤ i.fmod j ∧ i.fmod j < j := by
  rw [Int.fmod_eq_emod_of_nonneg i (by omega)]
  exact ⟨Int.emod_nonneg i (by omega), Int.emod_lt_of_pos i h⟩
/-- a source of at most n draws so far -/
def Src (H : Hp) (a : Addr) (n : Int) : Prop := ∃ p0 p1 p2 : Int, H a = some (.lst [.int p0, .int p1, .int p2]) ∧ 0 ≤ p0 ∧ p1.natAbs < 2 ^ 400 ∧ 0 ≤ p2 ∧ p2 ≤ n
theorem Src.mono {H : Hp} {a : Addr} {n m : Int} (h : Src H a n) (l : n ≤ m) : Src H a m := by
  obtain ⟨p0, p1, p2, e, h0, h1, h3, h4⟩ := h
  exact ⟨p0, p1, p2, e, h0, h1, h3, by omega⟩
theorem Src.same {H H' : Hp} {a : Addr} {n : Int} (h : Src H a n) (s : Same H H') : Src H' a n := by
  obtain ⟨p0, p1, p2, e, r⟩ := h
  exact ⟨p0, p1, p2, s _ _ e, r⟩
theorem Src.at {H : Hp} {a : Addr} {n : Int} (h : Src H a n) : ∃ o, H a = some o := by
  obtain ⟨_, _, _, e, _⟩ := h
  exact ⟨_, e⟩
theorem Src.ne {H : Hp} {a p : Addr} {n : Int} (h : Src H a n) (np : H p = none) : p ≠ a := fun z => by
  obtain ⟨o, eo⟩ := h.at
  rw [z] at np; rw [np] at eo; cases eo
theorem ebig4 : (2 : Nat) ^ 400 = 2582249878086908589655919172003011874329705792829223512830659356540647622016841194629645353280137831435903171972747493376 := by decide +kernel
def spSource : Sp := fun vs H Q _ => ∃ c k : Int, vs = [.int c, .int k] ∧ 0 ≤ k ∧ k ≤ 100 ∧ ∀ p H', H p = none → Same H H' → Src H' p 0 → Q (.ref p) H'
theorem cube_lt {x : Int} (h0 : 0 ≤ x) (h : x < 100000000000000000000000000000000000133) : (x ^ (3 : Int).toNat).natAbs < 2 ^ 390 := by
  have e : x ^ (3 : Int).toNat = x * x * x := by
    show x ^ 3 = _
    rw [Int.pow_succ, Int.pow_succ, Int.pow_succ, Int.pow_zero, Int.one_mul]
  rw [e, Int.natAbs_mul, Int.natAbs_mul]
  have hx : x.natAbs < 2 ^ 130 := by
    have e2 : (2 : Nat) ^ 130 = 1361129467683753853853498429727072845824 := by decide +kernel
    rw [e2]; omega
  have h1 : x.natAbs * x.natAbs < 2 ^ 130 * 2 ^ 130 := Nat.mul_lt_mul'' hx hx
  have h2 : x.natAbs * x.natAbs * x.natAbs < 2 ^ 130 * 2 ^ 130 * 2 ^ 130 := Nat.mul_lt_mul'' h1 hx
  have e3 : (2 : Nat) ^ 130 * 2 ^ 130 * 2 ^ 130 = 2 ^ 390 := by decide +kernel
  rw [e3] at h2
  exact h2
theorem ok_law_source (T : Txt K mg) : FnOk P w K mg base CX0 1 T.a_law_source T.d_law_source ["cell", "number"] spSource := by
  refine T.F_law_source.ok sc_law_source (fun vs H Q E h => ?_) (fun cdv A outer s H vs Q E hr h => ?_)
  · obtain ⟨c, k, rfl, _⟩ := h; rfl
  · obtain ⟨c, k, rfl, k0, k1, q⟩ := h
    refine ⟨_, (pss_one (ps_ret (pe_lst (pa_cons (pe_callB (call_max2 rfl) (by rfl) T.z_max (by decide +kernel) (pa_cons pe_int (pa_cons (pe_op op_sub (pv 0) (pe_op op_powW pe_int pe_int)) pa_nil))) (pa_cons (pe_op op_add (pe_op op_add (pe_op op_powW (pe_op op_modN (pv 0) (pe_op op_add (pe_op op_powW pe_int pe_int) pe_int)) pe_int) (pe_op op_mulW pe_int (pv 1))) pe_int) (pa_cons pe_int pa_nil)))))), ?_⟩
    have hm := fmod_lt (i := c) (j := 10 ^ (38 : Int).toNat + 133) (by rw [e38]; decide)
    refine ⟨.int c, rfl, 10, 18, rfl, rfl, ⟨by decide, by decide⟩, c, _, rfl, rfl, _, _, rfl, .int c, rfl, 10, 38, rfl, rfl, ⟨by decide, by decide⟩, _, 133, rfl, rfl, c, _, rfl, rfl, (by show _ ≠ (0 : Int); rw [e38]; decide), _, 3, rfl, rfl, ?_, .int k, rfl, 1299827, k, rfl, rfl, ?_, _, _, rfl, rfl, _, 331662479035539985, rfl, rfl, (by show 3 ≤ sizeLine; decide), fun p np => ?_⟩
    · refine ⟨by decide, ?_⟩
      rw [e38] at hm ⊢
      have := bits_le (x := c.fmod 100000000000000000000000000000000000133) (b := 130) (by
        have e2 : (2 : Nat) ^ 130 = 1361129467683753853853498429727072845824 := by decide +kernel
        rw [e2]; omega) (by decide)
      omega
    · exact wide_mul (a := 60) (b := 60) (by decide) (by omega) (by decide) (by decide) (by decide)
    · rw [e38] at hm
      have hc := cube_lt hm.1 hm.2
      refine q p _ np (same_new _ np) ⟨_, _, 0, upd_same, ?_, ?_, by decide, by decide⟩
      · show 0 ≤ (if (c - 10 ^ (18 : Int).toNat) > 0 then (c - 10 ^ (18 : Int).toNat) else (0 : Int))
        split <;> omega
      · rw [e38]
        have e4 : (2 : Nat) ^ 390 = 2521728396569246669585858566409191283525103313309788586748690777871726193375821479130513040312634601011624191379636224 := by decide +kernel
        rw [e4] at hc
        rw [ebig4]
        omega
def spDraw : Sp := fun vs H Q _ => ∃ (a : Addr) (m n : Int), vs = [.ref a, .int m] ∧ Src H a n ∧ n ≤ 1000000 ∧ 1 ≤ m ∧ m ≤ 10000000000000000000000000000000 ∧ ∀ r H', But a H H' → Src H' a (n + 1) → 0 ≤ r → r < m → Q (.int r) H'
theorem ok_law_draw (T : Txt K mg) : FnOk P w K mg base CX0 1 T.a_law_draw T.d_law_draw ["source", "count"] spDraw := by
  refine T.F_law_draw.ok sc_law_draw (fun vs H Q E h => ?_) (fun cdv A outer s H vs Q E hr h => ?_)
  · obtain ⟨a, m, n, rfl, _⟩ := h; rfl
  · obtain ⟨a, m, n, rfl, ⟨p0, p1, p2, e, h0, h1, h3, h4⟩, hn, m1, m2, q⟩ := h
    refine ⟨_, (pss_cons (ps_if (pt_cmpR op_gt (pe_ix ix_list (pv 0) pe_int (fun _ _ => rfl)) pe_int (nomark _))
  (pss_cons (ps_set (i := 2) sc_law_draw.nd rfl (.inl rfl) (pe_op op_modN (pe_ix ix_list (pv 0) pe_int (fun _ _ => rfl)) (pv 1)))
  (pss_cons (ps_asg (pe_op op_fdivW (pe_ix ix_list (pv 0) pe_int (fun _ _ => rfl)) (pv 1)) (pg_sub (pv 0) pe_int set_list))
  (pss_one (ps_ret (pv 2)))))
  pss_nil)
  (pss_cons (ps_asg (pe_op op_add (pe_ix ix_list (pv 0) pe_int (fun _ _ => rfl)) pe_int) (pg_sub (pv 0) pe_int set_list))
  (pss_cons (ps_asg (pe_op op_modN (pe_op op_add (pe_op op_add (pe_op op_powW (pe_ix ix_list (pv 0) pe_int (fun _ _ => rfl)) pe_int) (pe_op op_mulW pe_int (pe_ix ix_list (pv 0) pe_int (fun _ _ => rfl)))) pe_int) (pe_op op_add (pe_op op_powW pe_int pe_int) pe_int)) (pg_sub (pv 0) pe_int set_list))
  (pss_one (ps_ret (pe_op op_modN (pe_op op_fdivW (pe_ix ix_list (pv 0) pe_int (fun _ _ => rfl)) (pe_op op_powW pe_int pe_int)) (pv 1))))))), ?_⟩
    refine ⟨.ref a, rfl, a, _, 0, .int p0, rfl, rfl, SqL.of e, rfl, p0, 0, rfl, rfl, _, rfl, ite2 (fun hc => ?_) (fun hc => ?_)⟩
    · have hm := fmod_lt (i := p0) (j := m) (by omega)
      refine ⟨.ref a, rfl, a, _, 0, .int p0, rfl, rfl, SqL.of e, rfl, .int m, rfl, p0, m, rfl, rfl, (by show m ≠ 0; omega), ?_⟩
      refine ⟨.ref a, rfl, a, _, 0, .int p0, rfl, rfl, SqL.of e, rfl, .int m, rfl, p0, m, rfl, rfl, fdivW (by omega) (by omega), .ref a, rfl, a, _, 0, 0, rfl, rfl, e, rfl, ?_⟩
      exact ⟨_, rfl, q _ _ (But.upd _ _ _) ⟨p0 / m, p1, p2, upd_same, Int.ediv_nonneg h0 (by omega), h1, h3, by omega⟩ hm.1 hm.2⟩
    · refine ⟨.ref a, rfl, a, _, 2, .int p2, rfl, rfl, SqL.of e, rfl, p2, 1, rfl, rfl, .ref a, rfl, a, _, 2, 2, rfl, rfl, e, rfl, ?_⟩
      have e1 : (L2.upd H a (.lst [.int p0, .int p1, .int (p2 + 1)])) a = some (.lst [.int p0, .int p1, .int (p2 + 1)]) := upd_same
      refine ⟨.ref a, rfl, a, _, 1, .int p1, rfl, rfl, SqL.of e1, rfl, p1, 3, rfl, rfl, ?_, .ref a, rfl, a, _, 2, .int (p2 + 1), rfl, rfl, SqL.of e1, rfl, 791267863, p2 + 1, rfl, rfl, ?_, _, _, rfl, rfl, _, 5, rfl, rfl, 10, 33, rfl, rfl, ⟨by decide, by decide⟩, _, 61, rfl, rfl, _, _, rfl, rfl, (by show _ ≠ (0 : Int); rw [e33]; decide), .ref a, rfl, a, _, 1, 1, rfl, rfl, e1, rfl, ?_⟩
      · refine ⟨by decide, ?_⟩
        have := bits_le (x := p1) (b := 400) h1 (by decide)
        omega
      · exact wide_mul (a := 60) (b := 60) (by decide) (by omega) (by decide) (by decide) (by decide)
      · have hp := fmod_lt (i := p1 ^ (3 : Int).toNat + 791267863 * (p2 + 1) + 5) (j := 10 ^ (33 : Int).toNat + 61) (by rw [e33]; decide)
        have e2 : (L2.upd (L2.upd H a (.lst [.int p0, .int p1, .int (p2 + 1)])) a (.lst [.int p0, .int ((p1 ^ (3 : Int).toNat + 791267863 * (p2 + 1) + 5).fmod (10 ^ (33 : Int).toNat + 61)), .int (p2 + 1)])) a = some (.lst [.int p0, .int ((p1 ^ (3 : Int).toNat + 791267863 * (p2 + 1) + 5).fmod (10 ^ (33 : Int).toNat + 61)), .int (p2 + 1)]) := upd_same
        have hm := fmod_lt (i := ((p1 ^ (3 : Int).toNat + 791267863 * (p2 + 1) + 5).fmod (10 ^ (33 : Int).toNat + 61)) / 10 ^ (8 : Int).toNat) (j := m) (by omega)
        refine ⟨.ref a, rfl, a, _, 1, .int ((p1 ^ (3 : Int).toNat + 791267863 * (p2 + 1) + 5).fmod (10 ^ (33 : Int).toNat + 61)), rfl, rfl, SqL.of e2, rfl, 10, 8, rfl, rfl, ⟨by decide, by decide⟩, ((p1 ^ (3 : Int).toNat + 791267863 * (p2 + 1) + 5).fmod (10 ^ (33 : Int).toNat + 61)), _, rfl, rfl, fdivW (by decide) (by decide), .int m, rfl, _, m, rfl, rfl, (by show m ≠ 0; omega), ?_⟩
        refine q _ _ ((But.upd _ _ _).trans (But.upd _ _ _)) ⟨p0, _, p2 + 1, e2, h0, ?_, by omega, by omega⟩ hm.1 hm.2
        rw [e33] at hp ⊢
        rw [ebig4]; omega
def spCells (K : PySem.W.Frag) : Sp := fun vs H Q _ => ∃ (a : Addr) (ns : List Int) (m : Nat), vs = [.ref a, .int (m : Int)] ∧ Scr K H a (ns.map V.int) ∧ m ≤ 20 ∧ ∀ (C : Addr) (H' : Hp) (cs : List Int), Same H H' → H' C = some (.lst (cs.map V.int)) → cs.length ≤ m + 1 → Q (.ref C) H'
theorem ok_law_cells (T : Txt K mg) : FnOk P w K mg base CX0 1 T.a_law_cells T.d_law_cells ["script", "count"] (spCells K) := by
  refine T.F_law_cells.ok sc_law_cells (fun vs H Q E h => ?_) (fun cdv A outer s H vs Q E hr h => ?_)
  · obtain ⟨a, ns, m, rfl, _⟩ := h; rfl
  · obtain ⟨a, ns, m, rfl, hS, hm, q⟩ := h
    refine ⟨_, (pss_one (ps_ret (pe_op op_cat (pe_slice sl_list (pv 0) po_none (po_some (pv 1))) (pe_op op_rep (pe_lst (pa_cons pe_int pa_nil)) (pe_callTy call_int1 (by rfl) T.z_int (by decide +kernel) (pa_cons (pe_cmpR (op_eqD hr.units) (pv 0) (pe_lst pa_nil) (nomark _)) pa_nil)))))), ?_⟩
    refine ⟨.ref a, rfl, .int (m : Int), rfl, (m : Int), rfl, a, _, rfl, hS.sq, fun p1 n1 => ?_⟩
    rw [cut_toG]
    have s1 := same_new (H := H) (p := p1) (.lst ((ns.take m).map V.int)) n1
    have e1 : (upd H p1 (.lst ((ns.take m).map V.int))) p1 = some (.lst ((ns.take m).map V.int)) := upd_same
    generalize upd H p1 _ = H1 at s1 e1 ⊢
    refine ⟨(by show 1 ≤ sizeLine; decide), fun o no => ⟨.ref a, rfl, Nat.zero_le _, fun e ne => ?_⟩⟩
    have t1 := same_new (H := H1) (p := o) (.lst [.int 0]) no
    have t2 := same_new (p := e) (.lst []) ne
    have eo : (upd (upd H1 o (.lst [.int 0])) e (.lst [])) o = some (.lst [.int 0]) := t2 _ _ upd_same
    refine ⟨_, _, .lst ((hS.same (s1.trans (t1.trans t2))).sq) (dpInts ns), .lst (SqL.of upd_same) .nil, shapedInts ns, rfl, ?_⟩
    generalize PyData.eqv _ _ = tt
    have e2 := (t1.trans t2) _ _ e1
    have s2 := s1.trans (t1.trans t2)
    generalize upd (upd H1 o (.lst [.int 0])) e (.lst []) = H2 at eo e2 s2 ⊢
    refine .inr ⟨tt, rfl, ?_⟩
    obtain ⟨z, ez, hz⟩ : ∃ z : Nat, (if tt = true then (1 : Int) else 0) = ((z : Nat) : Int) ∧ z ≤ 1 := by
      cases tt
      · exact ⟨0, rfl, by decide⟩
      · exact ⟨1, rfl, by decide⟩
    rw [ez]
    refine ⟨o, ((z : Nat) : Int), _, rfl, rfl, eo, by omega, by omega, (by show 1 * _ ≤ sizeLine; rw [Int.toNat_natCast]; exact small_le (m := 1000) (by omega) (by decide)), fun u nu => ?_⟩
    have eR : (List.replicate ((z : Nat) : Int).toNat [V.int 0]).flatten = (List.replicate z (0 : Int)).map V.int := by
      rw [Int.toNat_natCast]
      have : z = 0 ∨ z = 1 := by omega
      rcases this with rfl | rfl <;> rfl
    rw [eR]
    have t3 := same_new (H := H2) (p := u) (.lst ((List.replicate z (0 : Int)).map V.int)) nu
    have lc : (ns.take m).length ≤ m := by rw [List.length_take]; omega
    refine ⟨p1, u, _, _, rfl, rfl, t3 _ _ e2, upd_same, ?_, fun C nC => ?_⟩
    · rw [List.length_map, List.length_map, List.length_replicate]; exact small_le (m := 1000) (by omega) (by decide)
    rw [← List.map_append]
    exact q C _ (ns.take m ++ List.replicate z (0 : Int)) (s2.trans (t3.trans (same_new _ nC))) upd_same (by rw [List.length_append, List.length_replicate]; omega)
end

section
variable {P : Program} {w : World} {K : PySem.W.Frag} {mg : Str → Option Value} {base : Heap}
abbrev colm (n : Nat) (r : Bool) (g : Int) (ks : List Int) : List Int := (play r (List.replicate n 0) (ks.map fun h => h + g)).2
structure Ldi (H H1 : Hp) (he bo fo hi : Addr) (n : Nat) (r : Bool) (g : Int) (ks : List Int) : Prop where
  sm : Same H H1
  e1 : H1 he = some (.lst ((colm n r g ks).map V.int))
  e2 : H1 bo = some (.lst ((bots n (wl r g n ks) ks).map V.int))
  e3 : H1 fo = some (.lst ((colsV r g n ks).map V.int))
  e4 : H1 hi = some (.lst ((topsV r g n ks).map V.int))
theorem Ldi.same {H H1 H2 : Hp} {he bo fo hi : Addr} {n : Nat} {r : Bool} {g : Int} {ks : List Int} (h : Ldi H H1 he bo fo hi n r g ks) (s : Same H1 H2) : Ldi H H2 he bo fo hi n r g ks := ⟨h.sm.trans s, s _ _ h.e1, s _ _ h.e2, s _ _ h.e3, s _ _ h.e4⟩
def spLaid (K : PySem.W.Frag) : Sp := fun vs H Q _ => ∃ (a : Addr) (n : Nat) (r : Bool) (g : Int) (ks : List Int), vs = [.ref a, .int n, .bl r, .int g] ∧ H a = some (.lst (ks.map V.int)) ∧ ks.length ≤ 300 ∧ 1 ≤ n ∧ n ≤ 30 ∧
  ∀ H' p f h b, Same H H' → H p = none → H f = none → H h = none → H b = none → H' p = some (.lst [.ref f, .ref h, .ref b]) → H' f = some (.lst ((colsV r g n ks).map V.int)) → H' h = some (.lst ((topsV r g n ks).map V.int)) → H' b = some (.lst ((bots n (wl r g n ks) ks).map V.int)) → Q (.ref p) H'
set_option maxHeartbeats 2000000 in
theorem ok_law_laid (T : Txt K mg) : FnOk P w K mg base CX0 2 T.a_law_laid T.d_law_laid ["cards", "size", "mirror", "free"] (spLaid K) := by
  refine T.F_law_laid.ok sc_law_laid (fun vs H Q E h => ?_) (fun cdv A outer s H vs Q E hr h => ?_)
  · obtain ⟨a, n, r, g, ks, rfl, _⟩ := h; rfl
  · obtain ⟨a, n, r, g, ks, rfl, ea, lk, n1, n2, q⟩ := h
    refine ⟨_, (pss_cons (ps_asg (pe_tup (pa_cons (pe_op op_rep (pe_lst (pa_cons pe_int pa_nil)) (pv 1)) (pa_cons (pe_op op_rep (pe_lst (pa_cons pe_int pa_nil)) (pv 1)) (pa_cons (pe_lst pa_nil) (pa_cons (pe_lst pa_nil) pa_nil))))) (pg_tup rfl (pgs_cons (pg_name (i := 4) sc_law_laid.nd rfl (.inr rfl)) (pgs_cons (pg_name (i := 5) sc_law_laid.nd rfl (.inl rfl)) (pgs_cons (pg_name (i := 6) sc_law_laid.nd rfl (.inl rfl)) (pgs_cons (pg_name (i := 7) sc_law_laid.nd rfl (.inl rfl)) pgs_nil))))))
  (pss_cons (ps_for PassesOwn.never rfl (pi_list (pv 0)) (pg_name (i := 8) sc_law_laid.nd rfl (.inl rfl))
  (pss_cons (ps_set (i := 9) sc_law_laid.nd rfl (.inr rfl) (pe_callB (cr_min rfl) (by rfl) T.z_min (by decide +kernel) (pa_cons (pv 4) pa_nil)))
  (pss_cons (ps_setLc (i := 10) (own := [("spot", 11)]) (te := (tVar 11)) (tt := (tTest (tOp rEq (tOp (rIxL K) (tVar 4) (tVar 11)) (tVar 9)))) rfl sc_law_laid.nd rfl rfl (sw_true rfl rfl rfl (by decide +kernel)) (pi_range1 (by rfl) T.z_range (pa_cons (pv 1) pa_nil)) (blkOk_by (own := [("spot", 11)]) (N := nm_law_laid) (sc := defScope s_law_laid) (by decide +kernel)) (fun _ _ _ _ _ => (pg_name (i := 11) sc_law_laid.nd rfl (.inl rfl))) (fun _ _ _ _ _ => (pts_one (pt_cmpR op_eq (pe_ix ix_list (pv 4) (pv 11) (fun _ _ => rfl)) (pv 9) (nomark _)))) (fun _ _ _ _ _ => (pv 11)))
  (pss_cons (ps_set (i := 11) sc_law_laid.nd rfl (.inl rfl) (pe_ix ix_list (pv 10) (pe_ifExp (pt_val (pv 2)) (pe_op op_sub (pe_callB call_len_seq (by rfl) T.z_len (by decide +kernel) (pa_cons (pv 10) pa_nil)) pe_int) pe_int) (fun _ _ => rfl)))
  (pss_cons (ps_expr (pe_bm PySem.F.plainAttrs_list PySem.F.slot_list_append PySem.F.type_list_append mt_append (pv 6) (pa_cons (pv 11) pa_nil)))
  (pss_cons (ps_expr (pe_bm PySem.F.plainAttrs_list PySem.F.slot_list_append PySem.F.type_list_append mt_append (pv 7) (pa_cons (pv 9) pa_nil)))
  (pss_cons (ps_asg (pe_op op_add (pv 9) (pv 8)) (pg_sub (pv 5) (pv 11) set_list))
  (pss_one (ps_asg (pe_op op_add (pe_op op_add (pv 9) (pv 8)) (pv 3)) (pg_sub (pv 4) (pv 11) set_list))))))))))
  (pss_one (ps_ret (pe_lst (pa_cons (pv 6) (pa_cons (pv 7) (pa_cons (pv 5) pa_nil)))))))), ?_⟩
    have eR : (List.replicate ((n : Nat) : Int).toNat [V.int 0]).flatten = (List.replicate n (0 : Int)).map V.int := by
      rw [Int.toNat_natCast]; exact repl_flat n
    have zl : 1 * ((n : Nat) : Int).toNat ≤ sizeLine := by rw [Int.toNat_natCast]; exact small_le (m := 1000) (by omega) (by decide)
    refine ⟨(by show 1 ≤ sizeLine; decide), fun o no => ?_⟩
    have s1 := same_new (H := H) (p := o) (.lst [.int 0]) no
    have eo : (L2.upd H o (.lst [.int 0])) o = some (.lst [.int 0]) := upd_same
    generalize L2.upd H o _ = H1 at s1 eo ⊢
    refine ⟨.int n, rfl, o, (n : Int), _, rfl, rfl, eo, by omega, by omega, zl, fun he nhe => ?_⟩
    rw [eR]
    have s2 := s1.trans (same_new (H := H1) (p := he) (.lst ((List.replicate n (0 : Int)).map V.int)) nhe)
    have ehe : (L2.upd H1 he (.lst ((List.replicate n (0 : Int)).map V.int))) he = some (.lst ((List.replicate n (0 : Int)).map V.int)) := upd_same
    have nhe0 := s1.free nhe
    generalize L2.upd H1 he _ = H2 at s2 ehe ⊢
    refine ⟨(by show 1 ≤ sizeLine; decide), fun o2 no2 => ?_⟩
    have s3' := same_new (H := H2) (p := o2) (.lst [.int 0]) no2
    have s3 := s2.trans s3'
    have eo2 : (L2.upd H2 o2 (.lst [.int 0])) o2 = some (.lst [.int 0]) := upd_same
    have ehe := s3' _ _ ehe
    generalize L2.upd H2 o2 _ = H3 at s3 eo2 ehe ⊢
    refine ⟨.int n, rfl, o2, (n : Int), _, rfl, rfl, eo2, by omega, by omega, zl, fun bo nbo => ?_⟩
    rw [eR]
    have s4' := same_new (H := H3) (p := bo) (.lst ((List.replicate n (0 : Int)).map V.int)) nbo
    have s4 := s3.trans s4'
    have ebo : (L2.upd H3 bo (.lst ((List.replicate n (0 : Int)).map V.int))) bo = some (.lst ((List.replicate n (0 : Int)).map V.int)) := upd_same
    have hb : he ≠ bo := ne_of_none ehe nbo
    have ehe := s4' _ _ ehe
    have nbo0 := s3.free nbo
    generalize L2.upd H3 bo _ = H4 at s4 ebo ehe ⊢
    refine ⟨Nat.zero_le _, fun fo nfo => ?_⟩
    have s5' := same_new (H := H4) (p := fo) (.lst []) nfo
    have s5 := s4.trans s5'
    have hf : he ≠ fo := ne_of_none ehe nfo
    have bf : bo ≠ fo := ne_of_none ebo nfo
    have efo : (L2.upd H4 fo (.lst [])) fo = some (.lst []) := upd_same
    have ehe := s5' _ _ ehe
    have ebo := s5' _ _ ebo
    have nfo0 := s4.free nfo
    generalize L2.upd H4 fo _ = H5 at s5 efo ebo ehe ⊢
    refine ⟨Nat.zero_le _, fun hi nhi => ?_⟩
    have s6' := same_new (H := H5) (p := hi) (.lst []) nhi
    have s6 := s5.trans s6'
    have hh : he ≠ hi := ne_of_none ehe nhi
    have bh : bo ≠ hi := ne_of_none ebo nhi
    have fh : fo ≠ hi := ne_of_none efo nhi
    have ehi : (L2.upd H5 hi (.lst [])) hi = some (.lst []) := upd_same
    have ehe := s6' _ _ ehe
    have ebo := s6' _ _ ebo
    have efo := s6' _ _ efo
    have nhi0 := s5.free nhi
    generalize L2.upd H5 hi _ = H6 at s6 ehi efo ebo ehe ⊢
    refine ⟨(by show 4 ≤ sizeLine; decide), fun t nt => ?_⟩
    have s7' := same_new (H := H6) (p := t) (.tup [.ref he, .ref bo, .ref fo, .ref hi]) nt
    have L7 : Ldi H (L2.upd H6 t (.tup [.ref he, .ref bo, .ref fo, .ref hi])) he bo fo hi n r g [] := ⟨s6.trans s7', s7' _ _ ehe, s7' _ _ ebo, s7' _ _ efo, s7' _ _ ehi⟩
    refine ⟨t, [_, _, _, _], rfl, SqT.of upd_same, rfl, _, [_, _, _], rfl, _, [_, _], rfl, _, [_], rfl, _, [], rfl, rfl, ?_⟩
    generalize L2.upd H6 t _ = H7 at L7 ⊢
    refine ⟨.ref a, rfl, a, rfl, ⟨_, SqL.of (L7.sm _ _ ea)⟩, ?_⟩
    refine for_list (K := K) (a := a) (xs := ks.map V.int) (fun i σ H' => ∃ y8 y9 y10 y11, σ = [some (.ref a), some (.int n), some (.bl r), some (.int g), some (.ref he), some (.ref bo), some (.ref fo), some (.ref hi), y8, y9, y10, y11] ∧ Ldi H H' he bo fo hi n r g (ks.take i))
      ⟨none, none, none, none, rfl, L7⟩ (fun i σ H' _ h => ?_) (fun i v σ H' e h => ?_) (fun σ H' h => ?_)
    · obtain ⟨_, _, _, _, _, L⟩ := h; exact SqL.of (L.sm _ _ ea)
    · obtain ⟨y8, y9, y10, y11, rfl, L⟩ := h
      obtain ⟨k, ek, rfl⟩ := get_map e
      have ne1 : colm n r g (ks.take i) ≠ [] := play_ne (zs_ne n1)
      have len1 : (colm n r g (ks.take i)).length = n := play_n
      refine ⟨.ref he, rfl, he, colm n r g (ks.take i), rfl, SqL.of L.e1, List.length_pos_iff.mpr ne1, fun m hm hle => ?_⟩
      have em : m = mn (colm n r g (ks.take i)) := (mn_eq hm hle).symm
      subst em
      refine ⟨.int n, rfl, n, rfl, by omega, by omega, fun D nD => ?_⟩
      refine lc_range (lo := 0) (n := ((n : Nat) : Int).toNat) (fun j Hc => Same H' Hc ∧ Hc D = some (.lst ((((List.range j).filter fun j => decide ((colm n r g (ks.take i))[j]? = some (mn (colm n r g (ks.take i))))).map fun j : Nat => (j : Int)).map V.int))) ⟨same_new _ nD, upd_same⟩ (fun j Hc hj h => ⟨rfl, ?_⟩) (fun Hc h => ?_)
      · obtain ⟨sc, eD⟩ := h
        rw [Int.toNat_natCast] at hj
        have ej : (0 + ((j : Nat) : Int)) = (j : Int) := by omega
        rw [ej]
        have gj : (colm n r g (ks.take i))[j]? = some (colm n r g (ks.take i))[j] := List.getElem?_eq_getElem (by omega)
        refine ⟨.ref he, rfl, _, rfl, he, _, _, .int (colm n r g (ks.take i))[j], rfl, rfl, SqL.of (sc _ _ L.e1), atI_nat (by rw [List.getElem?_map, gj]; rfl), ?_⟩
        refine ⟨_, rfl, rfl, _, rfl, ite2 (fun hc => ?_) (fun hc => ?_)⟩
        · have hc : V.int (colm n r g (ks.take i))[j] = V.int (mn (colm n r g (ks.take i))) := of_decide_eq_true hc
          injection hc with hc
          refine ⟨_, rfl, _, eD, ?_, same_set sc nD, ?_⟩
          · rw [List.length_map, List.length_map]
            exact small_of (m := 1000) (Nat.le_trans (List.length_filter_le _ _) (by rw [List.length_range]; omega)) (by decide)
          · rw [upd_same, List.range_succ, List.filter_append, List.filter_cons_of_pos (by simp [gj, hc]), List.map_append, List.map_append]
            rfl
        · have hc : ¬ (V.int (colm n r g (ks.take i))[j] = V.int (mn (colm n r g (ks.take i)))) := fun z => by rw [decide_eq_true z] at hc; exact hc rfl
          refine ⟨sc, ?_⟩
          rw [List.range_succ, List.filter_append, List.filter_cons_of_neg (by simp [gj]; exact fun z => hc (by rw [z])), List.filter_nil, List.append_nil]
          exact eD
      · obtain ⟨sc, eD⟩ := h
        rw [Int.toNat_natCast] at eD
        have eD : Hc D = some (.lst (((spotsL (colm n r g (ks.take i))).map fun j : Nat => (j : Int)).map V.int)) := by
          unfold spotsL; rw [len1]; exact eD
        have Lc := L.same sc
        obtain ⟨sp0, spl⟩ := spots_last ne1
        have nDH := L.sm.free nD
        have gl : ∀ j, (spotsL (colm n r g (ks.take i)))[j]? = some (low r (colm n r g (ks.take i))) → (((spotsL (colm n r g (ks.take i))).map fun j : Nat => (j : Int)).map V.int)[j]? = some (V.int (low r (colm n r g (ks.take i)) : Nat)) := fun j e => by
          rw [List.getElem?_map, List.getElem?_map, e]; rfl
        refine ⟨.ref D, rfl, .bl r, rfl, r, rfl, ite2 (fun hr0 => ?_) (fun hr0 => ?_)⟩
        · refine ⟨.ref D, rfl, D, _, rfl, .inl (SqL.of eD), _, 1, rfl, rfl, D, _, _, .int (low r (colm n r g (ks.take i)) : Nat), rfl, rfl, SqL.of eD, ?_, ?_⟩
          · rw [List.length_map, List.length_map, show (((spotsL (colm n r g (ks.take i))).length : Nat) : Int) - 1 = (((spotsL (colm n r g (ks.take i))).length - 1 : Nat) : Int) by omega]
            refine atI_nat (gl _ ?_)
            rw [spl]
            rw [show r = true from hr0]
          · have np1 : (.ref fo : V) = .ref fo := rfl
            refine ⟨.ref fo, rfl, .inl ⟨rfl, _, SqL.of Lc.e3⟩, _, rfl, fo, _, _, rfl, rfl, Lc.e3, (by rw [List.length_map, colsV_len, List.length_take]; exact small_of (m := 1000) (by omega) (by decide)), ?_⟩
            have f1 : ∀ c o, c ≠ fo → Hc c = some o → (L2.upd Hc fo (.lst ((colsV r g n (ks.take i)).map V.int ++ [.int (low r (colm n r g (ks.take i)) : Nat)]))) c = some o := fun c o h1 e => by rw [upd_ne h1]; exact e
            have f2 : (L2.upd Hc fo (.lst ((colsV r g n (ks.take i)).map V.int ++ [.int (low r (colm n r g (ks.take i)) : Nat)]))) fo = some (.lst ((colsV r g n (ks.take i)).map V.int ++ [.int (low r (colm n r g (ks.take i)) : Nat)])) := upd_same
            have fS := same_set (o := (.lst ((colsV r g n (ks.take i)).map V.int ++ [.int (low r (colm n r g (ks.take i)) : Nat)]))) Lc.sm nfo0
            generalize L2.upd Hc fo _ = G1 at f1 f2 fS ⊢
            refine ⟨.ref hi, rfl, .inl ⟨rfl, _, SqL.of (f1 _ _ (Ne.symm fh) Lc.e4)⟩, _, rfl, hi, _, _, rfl, rfl, f1 _ _ (Ne.symm fh) Lc.e4, (by rw [List.length_map, topsV_len, List.length_take]; exact small_of (m := 1000) (by omega) (by decide)), ?_⟩
            have g1 : ∀ c o, c ≠ fo → c ≠ hi → Hc c = some o → (L2.upd G1 hi (.lst ((topsV r g n (ks.take i)).map V.int ++ [.int (mn (colm n r g (ks.take i)))]))) c = some o := fun c o h1 h2 e => by rw [upd_ne h2]; exact f1 _ _ h1 e
            have g2 : (L2.upd G1 hi (.lst ((topsV r g n (ks.take i)).map V.int ++ [.int (mn (colm n r g (ks.take i)))]))) hi = some (.lst ((topsV r g n (ks.take i)).map V.int ++ [.int (mn (colm n r g (ks.take i)))])) := upd_same
            have g3 : (L2.upd G1 hi (.lst ((topsV r g n (ks.take i)).map V.int ++ [.int (mn (colm n r g (ks.take i)))]))) fo = some (.lst ((colsV r g n (ks.take i)).map V.int ++ [.int (low r (colm n r g (ks.take i)) : Nat)])) := by rw [upd_ne fh]; exact f2
            have gS := same_set (o := (.lst ((topsV r g n (ks.take i)).map V.int ++ [.int (mn (colm n r g (ks.take i)))]))) fS nhi0
            generalize L2.upd G1 hi _ = G2 at g1 g2 g3 gS ⊢
            have lowl : low r (colm n r g (ks.take i)) < n := by have := low_lt (r := r) ne1; rwa [len1] at this
            refine ⟨_, rfl, _, rfl, _, _, rfl, rfl, .ref bo, rfl, _, rfl, bo, _, _, low r (colm n r g (ks.take i)), rfl, rfl, g1 _ _ bf bh Lc.e2, ixN_nat (by rw [List.length_map, bots_len]; exact lowl), ?_⟩
            have k2 : ∀ c o, c ≠ bo → G2 c = some o → (L2.upd G2 bo (.lst (((bots n (wl r g n (ks.take i)) (ks.take i)).map V.int).set (low r (colm n r g (ks.take i))) (.int (mn (colm n r g (ks.take i)) + k))))) c = some o := fun c o h1 e => by rw [upd_ne h1]; exact e
            have k3 : (L2.upd G2 bo (.lst (((bots n (wl r g n (ks.take i)) (ks.take i)).map V.int).set (low r (colm n r g (ks.take i))) (.int (mn (colm n r g (ks.take i)) + k))))) bo = some (.lst (((bots n (wl r g n (ks.take i)) (ks.take i)).map V.int).set (low r (colm n r g (ks.take i))) (.int (mn (colm n r g (ks.take i)) + k)))) := upd_same
            have kS := same_set (o := (.lst (((bots n (wl r g n (ks.take i)) (ks.take i)).map V.int).set (low r (colm n r g (ks.take i))) (.int (mn (colm n r g (ks.take i)) + k))))) gS nbo0
            generalize L2.upd G2 bo _ = G3 at k2 k3 kS ⊢
            refine ⟨_, rfl, _, rfl, _, _, rfl, rfl, _, rfl, _, _, rfl, rfl, .ref he, rfl, _, rfl, he, _, _, low r (colm n r g (ks.take i)), rfl, rfl, k2 _ _ hb (g1 _ _ hf hh Lc.e1), ixN_nat (by rw [List.length_map, len1]; exact lowl), ?_⟩
            have et : ks.take (i + 1) = ks.take i ++ [k] := by rw [List.take_add_one, ek]; rfl
            refine ⟨_, _, _, _, rfl, ?_⟩
            rw [et]
            refine ⟨same_set kS nhe0, ?_, ?_, ?_, ?_⟩
            · rw [upd_same]
              unfold colm
              rw [List.map_append, List.map_singleton, play_snoc]
              show some (HO.lst ((List.map V.int _).set _ (V.int (_ + k + g)))) = some (HO.lst ((List.set _ _ _).map V.int))
              rw [List.map_set, Int.add_assoc]
            · rw [upd_ne (Ne.symm hb), k3, wl_snoc, bots_snoc wl_len, List.map_set]
            · rw [upd_ne (Ne.symm hf), k2 _ _ (Ne.symm bf) g3]
              unfold colsV
              rw [wl_snoc, List.map_append, List.map_append]
              rfl
            · rw [upd_ne (Ne.symm hh), k2 _ _ (Ne.symm bh) g2]
              unfold topsV
              rw [wl_snoc, List.map_append, List.map_append]
              rfl
        · refine ⟨D, _, _, .int (low r (colm n r g (ks.take i)) : Nat), rfl, rfl, SqL.of eD, ?_, ?_⟩
          · refine atI_nat (j := 0) (gl _ ?_)
            rw [spots_first ne1]
            rw [show r = false by cases r; rfl; exact absurd rfl hr0]
          · have np1 : (.ref fo : V) = .ref fo := rfl
            refine ⟨.ref fo, rfl, .inl ⟨rfl, _, SqL.of Lc.e3⟩, _, rfl, fo, _, _, rfl, rfl, Lc.e3, (by rw [List.length_map, colsV_len, List.length_take]; exact small_of (m := 1000) (by omega) (by decide)), ?_⟩
            have f1 : ∀ c o, c ≠ fo → Hc c = some o → (L2.upd Hc fo (.lst ((colsV r g n (ks.take i)).map V.int ++ [.int (low r (colm n r g (ks.take i)) : Nat)]))) c = some o := fun c o h1 e => by rw [upd_ne h1]; exact e
            have f2 : (L2.upd Hc fo (.lst ((colsV r g n (ks.take i)).map V.int ++ [.int (low r (colm n r g (ks.take i)) : Nat)]))) fo = some (.lst ((colsV r g n (ks.take i)).map V.int ++ [.int (low r (colm n r g (ks.take i)) : Nat)])) := upd_same
            have fS := same_set (o := (.lst ((colsV r g n (ks.take i)).map V.int ++ [.int (low r (colm n r g (ks.take i)) : Nat)]))) Lc.sm nfo0
            generalize L2.upd Hc fo _ = G1 at f1 f2 fS ⊢
            refine ⟨.ref hi, rfl, .inl ⟨rfl, _, SqL.of (f1 _ _ (Ne.symm fh) Lc.e4)⟩, _, rfl, hi, _, _, rfl, rfl, f1 _ _ (Ne.symm fh) Lc.e4, (by rw [List.length_map, topsV_len, List.length_take]; exact small_of (m := 1000) (by omega) (by decide)), ?_⟩
            have g1 : ∀ c o, c ≠ fo → c ≠ hi → Hc c = some o → (L2.upd G1 hi (.lst ((topsV r g n (ks.take i)).map V.int ++ [.int (mn (colm n r g (ks.take i)))]))) c = some o := fun c o h1 h2 e => by rw [upd_ne h2]; exact f1 _ _ h1 e
            have g2 : (L2.upd G1 hi (.lst ((topsV r g n (ks.take i)).map V.int ++ [.int (mn (colm n r g (ks.take i)))]))) hi = some (.lst ((topsV r g n (ks.take i)).map V.int ++ [.int (mn (colm n r g (ks.take i)))])) := upd_same
            have g3 : (L2.upd G1 hi (.lst ((topsV r g n (ks.take i)).map V.int ++ [.int (mn (colm n r g (ks.take i)))]))) fo = some (.lst ((colsV r g n (ks.take i)).map V.int ++ [.int (low r (colm n r g (ks.take i)) : Nat)])) := by rw [upd_ne fh]; exact f2
            have gS := same_set (o := (.lst ((topsV r g n (ks.take i)).map V.int ++ [.int (mn (colm n r g (ks.take i)))]))) fS nhi0
            generalize L2.upd G1 hi _ = G2 at g1 g2 g3 gS ⊢
            have lowl : low r (colm n r g (ks.take i)) < n := by have := low_lt (r := r) ne1; rwa [len1] at this
            refine ⟨_, rfl, _, rfl, _, _, rfl, rfl, .ref bo, rfl, _, rfl, bo, _, _, low r (colm n r g (ks.take i)), rfl, rfl, g1 _ _ bf bh Lc.e2, ixN_nat (by rw [List.length_map, bots_len]; exact lowl), ?_⟩
            have k2 : ∀ c o, c ≠ bo → G2 c = some o → (L2.upd G2 bo (.lst (((bots n (wl r g n (ks.take i)) (ks.take i)).map V.int).set (low r (colm n r g (ks.take i))) (.int (mn (colm n r g (ks.take i)) + k))))) c = some o := fun c o h1 e => by rw [upd_ne h1]; exact e
            have k3 : (L2.upd G2 bo (.lst (((bots n (wl r g n (ks.take i)) (ks.take i)).map V.int).set (low r (colm n r g (ks.take i))) (.int (mn (colm n r g (ks.take i)) + k))))) bo = some (.lst (((bots n (wl r g n (ks.take i)) (ks.take i)).map V.int).set (low r (colm n r g (ks.take i))) (.int (mn (colm n r g (ks.take i)) + k)))) := upd_same
            have kS := same_set (o := (.lst (((bots n (wl r g n (ks.take i)) (ks.take i)).map V.int).set (low r (colm n r g (ks.take i))) (.int (mn (colm n r g (ks.take i)) + k))))) gS nbo0
            generalize L2.upd G2 bo _ = G3 at k2 k3 kS ⊢
            refine ⟨_, rfl, _, rfl, _, _, rfl, rfl, _, rfl, _, _, rfl, rfl, .ref he, rfl, _, rfl, he, _, _, low r (colm n r g (ks.take i)), rfl, rfl, k2 _ _ hb (g1 _ _ hf hh Lc.e1), ixN_nat (by rw [List.length_map, len1]; exact lowl), ?_⟩
            have et : ks.take (i + 1) = ks.take i ++ [k] := by rw [List.take_add_one, ek]; rfl
            refine ⟨_, _, _, _, rfl, ?_⟩
            rw [et]
            refine ⟨same_set kS nhe0, ?_, ?_, ?_, ?_⟩
            · rw [upd_same]
              unfold colm
              rw [List.map_append, List.map_singleton, play_snoc]
              show some (HO.lst ((List.map V.int _).set _ (V.int (_ + k + g)))) = some (HO.lst ((List.set _ _ _).map V.int))
              rw [List.map_set, Int.add_assoc]
            · rw [upd_ne (Ne.symm hb), k3, wl_snoc, bots_snoc wl_len, List.map_set]
            · rw [upd_ne (Ne.symm hf), k2 _ _ (Ne.symm bf) g3]
              unfold colsV
              rw [wl_snoc, List.map_append, List.map_append]
              rfl
            · rw [upd_ne (Ne.symm hh), k2 _ _ (Ne.symm bh) g2]
              unfold topsV
              rw [wl_snoc, List.map_append, List.map_append]
              rfl
    · obtain ⟨y8, y9, y10, y11, rfl, L⟩ := h
      rw [List.length_map, List.take_length] at L
      refine ⟨.ref fo, rfl, .ref hi, rfl, .ref bo, rfl, (by show 3 ≤ sizeLine; decide), fun p np => ?_⟩
      have sp := same_new (H := H') (p := p) (.lst [.ref fo, .ref hi, .ref bo]) np
      exact q _ p fo hi bo (L.sm.trans sp) (L.sm.free np) nfo0 nhi0 nbo0 upd_same (sp _ _ L.e3) (sp _ _ L.e4) (sp _ _ L.e2)
end

section
variable {P : Program} {w : World} {K : PySem.W.Frag} {mg : Str → Option Value} {base : Heap}
def spDue (K : PySem.W.Frag) : Sp := fun vs H Q _ => ∃ (t c : Addr) (n : Nat) (r : Bool) (g : Int) (ks : List Int), vs = [.ref t, .bl r, .int g] ∧ H t = some (.tup [.ref c, .int n]) ∧ H c = some (.lst (ks.map V.int)) ∧ ks.length ≤ 300 ∧ 1 ≤ n ∧ n ≤ 30 ∧
  ∀ H' p f h b, Same H H' → H p = none → H f = none → H h = none → H b = none → H' p = some (.lst [.ref c, .ref f, .ref h, .ref b, .int n, .int ks.length]) → H' f = some (.lst ((colsV r g n ks).map V.int)) → H' h = some (.lst ((topsV r g n ks).map V.int)) → H' b = some (.lst ((bots n (wl r g n ks) ks).map V.int)) → Q (.ref p) H'
theorem ok_law_due (T : Txt K mg) : FnOk P w K mg base CX0 3 T.a_law_due T.d_law_due ["state", "mirror", "free"] (spDue K) := by
  refine T.F_law_due.ok sc_law_due (fun vs H Q E h => ?_) (fun cdv A outer s H vs Q E hr h => ?_)
  · obtain ⟨t, c, n, r, g, ks, rfl, _⟩ := h; rfl
  · obtain ⟨t, c, n, r, g, ks, rfl, et, ec, lk, n1, n2, q⟩ := h
    refine ⟨_, (pss_cons (ps_asg (pv 0) (pg_tup rfl (pgs_cons (pg_name (i := 3) sc_law_due.nd rfl (.inl rfl)) (pgs_cons (pg_name (i := 4) sc_law_due.nd rfl (.inl rfl)) pgs_nil))))
  (pss_one (ps_ret (pe_op op_cat (pe_op op_cat (pe_lst (pa_cons (pv 3) pa_nil)) (pe_call (ok_law_laid T) hr (by rfl) T.g_law_laid T.F_law_laid.kp T.b_law_laid .nil pass0 (pa_cons (pv 3) (pa_cons (pv 4) (pa_cons (pv 1) (pa_cons (pv 2) pa_nil)))))) (pe_lst (pa_cons (pv 4) (pa_cons (pe_callB call_len_seq (by rfl) T.z_len (by decide +kernel) (pa_cons (pv 3) pa_nil)) pa_nil))))))), ?_⟩
    refine ⟨.ref t, rfl, t, [_, _], rfl, SqT.of et, rfl, _, [_], rfl, _, [], rfl, rfl, ?_⟩
    refine ⟨.ref c, rfl, (by show 1 ≤ sizeLine; decide), fun o no => ?_⟩
    have s1 := same_new (H := H) (p := o) (.lst [.ref c]) no
    have eo : (L2.upd H o (.lst [.ref c])) o = some (.lst [.ref c]) := upd_same
    generalize L2.upd H o _ = H1 at s1 eo ⊢
    refine ⟨.ref c, rfl, .int n, rfl, .bl r, rfl, .int g, rfl, c, n, r, g, ks, rfl, s1 _ _ ec, lk, n1, n2, fun H2 p f h b s2 np nf nh nb ep ef eh eb => ?_⟩
    refine ⟨o, p, _, _, rfl, rfl, s2 _ _ eo, ep, (by show 4 ≤ sizeLine; decide), fun o2 no2 => ?_⟩
    have s3 := same_new (H := H2) (p := o2) (.lst ([.ref c] ++ [.ref f, .ref h, .ref b])) no2
    have eo2 : (L2.upd H2 o2 (.lst ([.ref c] ++ [.ref f, .ref h, .ref b]))) o2 = some (.lst [.ref c, .ref f, .ref h, .ref b]) := upd_same
    generalize L2.upd H2 o2 _ = H3 at s3 eo2 ⊢
    have S3 := s1.trans (s2.trans s3)
    refine ⟨.int n, rfl, .ref c, rfl, c, _, rfl, .inl (SqL.of (S3 _ _ ec)), (by show 2 ≤ sizeLine; decide), fun o3 no3 => ?_⟩
    rw [List.length_map]
    have s4 := same_new (H := H3) (p := o3) (.lst [.int n, .int ks.length]) no3
    have eo3 : (L2.upd H3 o3 (.lst [.int n, .int ks.length])) o3 = some (.lst [.int n, .int ks.length]) := upd_same
    generalize L2.upd H3 o3 _ = H4 at s4 eo3 ⊢
    refine ⟨o2, o3, _, _, rfl, rfl, s4 _ _ eo2, eo3, (by show 6 ≤ sizeLine; decide), fun o4 no4 => ?_⟩
    have s5 := same_new (H := H4) (p := o4) (.lst ([.ref c, .ref f, .ref h, .ref b] ++ [.int n, .int ks.length])) no4
    have S := s3.trans (s4.trans s5)
    exact q _ o4 f h b ((s1.trans s2).trans S) ((S3.trans s4).free no4) (s1.free nf) (s1.free nh) (s1.free nb) upd_same (S _ _ ef) (S _ _ eh) (S _ _ eb)
def spSeen (C : Addr) : Sp := fun vs H Q _ => ∃ (x dx l1 l2 : Addr) (n : Nat) (r : Bool) (g : Int) (hs : List Int) (cs : List V), vs = [.ref x] ∧ Wl H x C dx l1 l2 n r g hs cs ∧ 1 ≤ n ∧ n ≤ 30 ∧
  ∀ H' p a f h b, Same H H' → H p = none → H' p = some (.lst [.ref a, .ref f, .ref h, .ref b, .int n, .int hs.length]) → H' a = some (.lst (hs.map V.int)) → H' f = some (.lst ((colsV r g n hs).map V.int)) → H' h = some (.lst ((topsV r g n hs).map V.int)) → H' b = some (.lst ((bots n (wl r g n hs) hs).map V.int)) → Q (.ref p) H'
theorem ok_law_seen (T : Txt K mg) : FnOk P w K mg base CX0 7 T.a_law_seen T.d_law_seen ["one"] (spSeen T.C_Wall) := by
  refine T.F_law_seen.ok sc_law_seen (fun vs H Q E h => ?_) (fun cdv A outer s H vs Q E hr h => ?_)
  · obtain ⟨x, dx, l1, l2, n, r, g, hs, cs, rfl, _⟩ := h; rfl
  · obtain ⟨x, dx, l1, l2, n, r, g, hs, cs, rfl, wl, n1, n2, q⟩ := h
    refine ⟨_, (pss_one (ps_ret (pe_lst (pa_cons (pe_prop (pv 0) T.cl_Wall T.pheights_Wall (ok_Wall_heights T) (hr.mono (by decide)) T.bheights_Wall .nil pass0 (by rfl)) (pa_cons (pe_prop (pv 0) T.cl_Wall T.pcard_columns_Wall (ok_Wall_card_columns T) (hr.mono (by decide)) T.bcard_columns_Wall .nil pass0 (by rfl)) (pa_cons (pe_prop (pv 0) T.cl_Wall T.ptops_Wall (ok_Wall_tops T) (hr.mono (by decide)) T.btops_Wall .nil pass0 (by rfl)) (pa_cons (pe_prop (pv 0) T.cl_Wall T.pend_Wall (ok_Wall_end T) (hr.mono (by decide)) T.bend_Wall .nil pass0 (by rfl)) (pa_cons (pe_prop (pv 0) T.cl_Wall T.pwidth_Wall (ok_Wall_width T) (hr.mono (by decide)) T.bwidth_Wall .nil pass0 (by rfl)) (pa_cons (pe_callB (call_lenI T.me_Wall_len.at_ T.me_Wall_len.fn (FnOk.raw (ok_Wall_len T) T.b_Wall_len .nil) (hr.mono (by decide)) pass0) (by rfl) T.z_len (by decide +kernel) (pa_cons (pv 0) pa_nil)) pa_nil))))))))), ?_⟩
    refine ⟨.ref x, rfl, x, dx, _, rfl, wl.ob, x, dx, l1, l2, n, r, g, hs, cs, rfl, wl, fun a na => ?_⟩
    have s1 := same_new (H := H) (p := a) (.lst (hs.map V.int)) na
    have e1 : (L2.upd H a (.lst (hs.map V.int))) a = some (.lst (hs.map V.int)) := upd_same
    generalize L2.upd H a _ = H1 at s1 e1 ⊢
    have w1 := wl.same s1
    refine ⟨.ref x, rfl, x, dx, _, rfl, w1.ob, x, dx, l1, l2, n, r, g, hs, cs, rfl, w1, n1, n2, fun H2 f s2 nf ef => ?_⟩
    have w2 := w1.same s2
    refine ⟨.ref x, rfl, x, dx, _, rfl, w2.ob, x, dx, l1, l2, n, r, g, hs, cs, rfl, w2, n1, n2, fun H3 h s3 nh eh => ?_⟩
    have w3 := w2.same s3
    refine ⟨.ref x, rfl, x, dx, _, rfl, w3.ob, x, dx, l1, l2, n, r, g, hs, cs, rfl, w3, n1, n2, fun H4 b s4 nb eb => ?_⟩
    have w4 := w3.same s4
    refine ⟨.ref x, rfl, x, dx, _, rfl, w4.ob, x, dx, l1, l2, n, r, g, hs, cs, rfl, w4, ?_⟩
    refine ⟨.ref x, rfl, x, dx, _, rfl, w4.ob, x, dx, l1, l2, n, r, g, hs, cs, rfl, w4, hs.length, rfl, by omega, by have := wl.few; omega, ?_⟩
    refine ⟨(by show 6 ≤ sizeLine; decide), fun p np => ?_⟩
    have s5 := same_new (H := H4) (p := p) (.lst [.ref a, .ref f, .ref h, .ref b, .int n, .int hs.length]) np
    exact q _ p a f h b (s1.trans (s2.trans (s3.trans (s4.trans s5)))) ((s1.trans (s2.trans (s3.trans s4))).free np) upd_same (s5 _ _ (s4 _ _ (s3 _ _ (s2 _ _ e1)))) (s5 _ _ (s4 _ _ (s3 _ _ ef))) (s5 _ _ (s4 _ _ eh)) (s5 _ _ eb)
/-- what is seen is what is due -/
theorem seen_due {H : Hp} {p p2 a c f h b f2 h2 b2 : Addr} {n : Nat} {ks l1 l2 l3 : List Int} (e1 : H p = some (.lst [.ref a, .ref f, .ref h, .ref b, .int n, .int ks.length])) (e2 : H p2 = some (.lst [.ref c, .ref f2, .ref h2, .ref b2, .int n, .int ks.length]))
    (ea : H a = some (.lst (ks.map V.int))) (ec : H c = some (.lst (ks.map V.int))) (ef : H f = some (.lst (l1.map V.int))) (ef2 : H f2 = some (.lst (l1.map V.int))) (eh : H h = some (.lst (l2.map V.int))) (eh2 : H h2 = some (.lst (l2.map V.int)))
    (eb : H b = some (.lst (l3.map V.int))) (eb2 : H b2 = some (.lst (l3.map V.int))) (k0 : ks.length ≤ 1000) (k1 : l1.length ≤ 1000) (k2 : l2.length ≤ 1000) (k3 : l3.length ≤ 1000) : RS H (.ref p) (.ref p2) := by
  refine .inr (.inr ⟨p, p2, _, _, rfl, rfl, e1, e2, rfl, by show 6 ≤ 1000; decide, fun i v u h1 h2 => ?_⟩)
  have : i < 6 := get_lt h1
  have : i = 0 ∨ i = 1 ∨ i = 2 ∨ i = 3 ∨ i = 4 ∨ i = 5 := by omega
  rcases this with rfl | rfl | rfl | rfl | rfl | rfl <;> (cases h1; cases h2)
  · exact .inr (rl_ints ea ec k0)
  · exact .inr (rl_ints ef ef2 k1)
  · exact .inr (rl_ints eh eh2 k2)
  · exact .inr (rl_ints eb eb2 k3)
  · exact .inl ⟨_, rfl, rfl⟩
  · exact .inl ⟨_, rfl, rfl⟩
/-- a list that is filled with draws -/
def Pvc (a D : Addr) (H0 : Hp) (n m : Int) (i : Nat) (H' : Hp) : Prop := ∃ bs : List Int, But a H0 H' ∧ Src H' a (n + i) ∧ H' D = some (.lst (bs.map V.int)) ∧ bs.length = i ∧ ∀ b ∈ bs, 1 ≤ b ∧ b ≤ m
def spCds : Sp := fun vs H Q _ => ∃ (a : Addr) (n : Int) (m : Nat), vs = [.ref a, .int m] ∧ Src H a n ∧ n ≤ 100000 ∧ m ≤ 1000 ∧ ∀ (L : Addr) (H' : Hp) (bs : List Int), But a H H' → Src H' a (n + m + 1) → H L = none → H' L = some (.lst (bs.map V.int)) → bs.length = m → (∀ b ∈ bs, 1 ≤ b ∧ b ≤ big) → Q (.ref L) H'
theorem e30p : ((10 : Int) ^ (30 : Int).toNat) = big := by decide +kernel
theorem ok_law_cards (T : Txt K mg) : FnOk P w K mg base CX0 2 T.a_law_cards T.d_law_cards ["source", "count"] spCds := by
  refine T.F_law_cards.ok sc_law_cards (fun vs H Q E h => ?_) (fun cdv A outer s H vs Q E hr h => ?_)
  · obtain ⟨a, n, m, rfl, _⟩ := h; rfl
  · obtain ⟨a, n, m, rfl, sr, hn, hm, q⟩ := h
    refine ⟨_, (pss_cons (ps_set (i := 2) sc_law_cards.nd rfl (.inr rfl) (pe_ix ix_list (pe_lst (pa_cons pe_int (pa_cons pe_int (pa_cons (pe_op op_powW pe_int pe_int) pa_nil)))) (pe_call (ok_law_draw T) hr (by rfl) T.g_law_draw T.F_law_draw.kp T.b_law_draw .nil pass0 (pa_cons (pv 0) (pa_cons pe_int pa_nil))) (fun _ _ => rfl)))
  (pss_one (ps_ret (pe_lc (own := [("k", 3)]) rfl sc_law_cards.nd (pi_range1 (by rfl) T.z_range (pa_cons (pv 1) pa_nil)) (blkOk_by (own := [("k", 3)]) (N := nm_law_cards) (sc := defScope s_law_cards) (by decide +kernel)) (fun _ _ _ _ _ => (pg_name (i := 3) sc_law_cards.nd rfl (.inl rfl))) (fun _ _ _ _ _ => pts_nil) (fun _ _ _ _ _ => (pe_op op_add pe_int (pe_call (ok_law_draw T) hr (by rfl) T.g_law_draw T.F_law_draw.kp T.b_law_draw .nil pass0 (pa_cons (pv 0) (pa_cons (pv 2) pa_nil))))))))), ?_⟩
    refine ⟨_, _, rfl, rfl, ⟨by decide, by decide⟩, ?_⟩
    refine ⟨(by show 3 ≤ sizeLine; decide), fun o no => ?_⟩
    have s1 := same_new (H := H) (p := o) (.lst [.int 2, .int 9, .int ((10 : Int) ^ (30 : Int).toNat)]) no
    have eo : (L2.upd H o (.lst [.int 2, .int 9, .int ((10 : Int) ^ (30 : Int).toNat)])) o = some (.lst [.int 2, .int 9, .int ((10 : Int) ^ (30 : Int).toNat)]) := upd_same
    have oa := sr.ne no
    generalize L2.upd H o _ = H1 at s1 eo ⊢
    refine ⟨.ref a, rfl, a, 3, n, rfl, sr.same s1, by omega, by decide, by decide, fun x H2 b2 sr2 x0 x1 => ?_⟩
    have B2 : But a H H2 := fun c o h e => b2 _ _ h (s1 _ _ e)
    have eo2 := b2 _ _ oa eo
    obtain ⟨j, rfl⟩ := Int.eq_ofNat_of_zero_le x0
    obtain ⟨mo, em, m1, m2⟩ : ∃ mo : Int, ([V.int 2, V.int 9, V.int ((10 : Int) ^ (30 : Int).toNat)])[j]? = some (.int mo) ∧ 1 ≤ mo ∧ mo ≤ big := by
      have : j = 0 ∨ j = 1 ∨ j = 2 := by omega
      rcases this with rfl | rfl | rfl
      · exact ⟨2, rfl, by decide, by decide⟩
      · exact ⟨9, rfl, by decide, by decide⟩
      · exact ⟨big, by rw [e30p]; rfl, by decide, by decide⟩
    refine ⟨o, _, _, .int mo, rfl, rfl, SqL.of eo2, atI_nat em, ?_⟩
    refine ⟨.int m, rfl, m, rfl, by omega, by omega, fun D nD => ?_⟩
    have Da := sr2.ne nD
    refine lc_range (lo := 0) (n := ((m : Nat) : Int).toNat) (Pvc a D H2 (n + 1) mo) ⟨[], But.of (same_new _ nD), (sr2.same (same_new _ nD)).mono (by omega), upd_same, rfl, fun b hb => by cases hb⟩ (fun i H' hi h => ⟨rfl, ?_⟩) (fun H' h => ?_)
    · obtain ⟨bs, b3, sr3, eD, hl, hb⟩ := h
      rw [Int.toNat_natCast] at hi
      refine ⟨.ref a, rfl, .int mo, rfl, a, mo, n + 1 + i, rfl, sr3, by omega, m1, Int.le_trans m2 (by decide), fun y H3 b4 sr4 y0 y1 => ?_⟩
      refine ⟨1, y, rfl, rfl, bs.map V.int, b4 _ _ Da eD, ?_, bs ++ [1 + y], ?_, ?_, ?_, ?_, fun z hz => ?_⟩
      · rw [List.length_map, hl]; exact small_of (m := 1000) (by omega) (by decide)
      · intro c o nc ec
        have : c ≠ D := ne_of_none ec nD
        rw [upd_ne this]
        exact b4 _ _ nc (b3 _ _ nc ec)
      · obtain ⟨p0, p1, p2, ep, r⟩ := sr4
        exact ⟨p0, p1, p2, by rw [upd_ne (Ne.symm Da)]; exact ep, r.1, r.2.1, r.2.2.1, by have := r.2.2.2; omega⟩
      · rw [upd_same, List.map_append]; rfl
      · rw [List.length_append, hl]; rfl
      · rcases List.mem_append.mp hz with hz | hz
        · exact hb z hz
        · rw [List.mem_singleton.mp hz]; omega
    · obtain ⟨bs, b3, sr3, eD, hl, hb⟩ := h
      rw [Int.toNat_natCast] at sr3 hl
      refine q D H' bs (fun c o h e => b3 _ _ h (B2 _ _ h e)) (sr3.mono (by omega)) ?_ eD hl fun b hb' => ⟨(hb b hb').1, Int.le_trans (hb b hb').2 m2⟩
      cases z : H D with
      | none => rfl
      | some o => rw [B2 _ _ Da z] at nD; cases nD
def spSz (K : PySem.W.Frag) : Sp := fun vs H Q _ => ∃ (a sc : Addr) (n : Int) (ns : List Int), vs = [.ref a, .ref sc] ∧ Src H a n ∧ n ≤ 100000 ∧ Scr K H sc (ns.map V.int) ∧ ∀ (m : Nat) H', But a H H' → Src H' a (n + 3) → 1 ≤ m → m ≤ 30 → Q (.int m) H'
theorem ok_law_size (T : Txt K mg) : FnOk P w K mg base CX0 2 T.a_law_size T.d_law_size ["source", "script"] (spSz K) := by
  refine T.F_law_size.ok sc_law_size (fun vs H Q E h => ?_) (fun cdv A outer s H vs Q E hr h => ?_)
  · obtain ⟨a, sc, n, ns, rfl, _⟩ := h; rfl
  · obtain ⟨a, sc, n, ns, rfl, sr, hn, hS, q⟩ := h
    refine ⟨_, (pss_cons (ps_set (i := 2) sc_law_size.nd rfl (.inl rfl) (pe_ix ix_list (pe_lst (pa_cons (pe_op op_add pe_int (pe_call (ok_law_draw T) hr (by rfl) T.g_law_draw T.F_law_draw.kp T.b_law_draw .nil pass0 (pa_cons (pv 0) (pa_cons pe_int pa_nil)))) (pa_cons (pe_op op_add pe_int (pe_call (ok_law_draw T) hr (by rfl) T.g_law_draw T.F_law_draw.kp T.b_law_draw .nil pass0 (pa_cons (pv 0) (pa_cons pe_int pa_nil)))) pa_nil))) (pe_call (ok_law_draw T) hr (by rfl) T.g_law_draw T.F_law_draw.kp T.b_law_draw .nil pass0 (pa_cons (pv 0) (pa_cons pe_int pa_nil))) (fun _ _ => rfl)))
  (pss_one (ps_ret (pe_ifExp (pt_cmpR (op_eqD hr.units) (pv 1) (pe_lst pa_nil) (nomark _)) pe_int (pv 2))))), ?_⟩
    refine ⟨.ref a, rfl, a, 4, n, rfl, sr, by omega, by decide, by decide, fun x H1 b1 sr1 x0 x1 => ?_⟩
    refine ⟨1, x, rfl, rfl, .ref a, rfl, a, 30, n + 1, rfl, sr1, by omega, by decide, by decide, fun y H2 b2 sr2 y0 y1 => ?_⟩
    refine ⟨1, y, rfl, rfl, (by show 2 ≤ sizeLine; decide), fun o no => ?_⟩
    have s3 := same_new (H := H2) (p := o) (.lst [.int (1 + x), .int (1 + y)]) no
    have eo : (L2.upd H2 o (.lst [.int (1 + x), .int (1 + y)])) o = some (.lst [.int (1 + x), .int (1 + y)]) := upd_same
    have oa := sr2.ne no
    generalize L2.upd H2 o _ = H3 at s3 eo ⊢
    refine ⟨.ref a, rfl, a, 2, n + 1 + 1, rfl, sr2.same s3, by omega, by decide, by decide, fun z H4 b4 sr4 z0 z1 => ?_⟩
    obtain ⟨j, rfl⟩ := Int.eq_ofNat_of_zero_le z0
    obtain ⟨m, em, m1, m2⟩ : ∃ m : Nat, ([V.int (1 + x), V.int (1 + y)])[j]? = some (.int m) ∧ 1 ≤ m ∧ m ≤ 30 := by
      have : j = 0 ∨ j = 1 := by omega
      rcases this with rfl | rfl
      · exact ⟨(1 + x).toNat, by rw [Int.toNat_of_nonneg (by omega)]; rfl, by omega, by omega⟩
      · exact ⟨(1 + y).toNat, by rw [Int.toNat_of_nonneg (by omega)]; rfl, by omega, by omega⟩
    have B4 : But a H H4 := fun c o h e => b4 _ _ h (s3 _ _ (b2 _ _ h (b1 _ _ h e)))
    refine ⟨o, _, _, .int m, rfl, rfl, SqL.of (b4 _ _ oa eo), atI_nat em, ?_⟩
    refine ⟨.ref sc, rfl, Nat.zero_le _, fun e ne => ?_⟩
    have s5 := same_new (H := H4) (p := e) (.lst []) ne
    have S5 : But a H (L2.upd H4 e (.lst [])) := fun c o h q => s5 _ _ (B4 _ _ h q)
    have hS5 : Scr K (L2.upd H4 e (.lst [])) sc (ns.map V.int) := hS.but (p := a) (fun o u z => by obtain ⟨_, _, _, e, _⟩ := sr; rw [e] at z; cases z) S5
    refine ⟨_, _, .lst hS5.sq (dpInts ns), .lst (SqL.of upd_same) .nil, shapedInts ns, rfl, ?_⟩
    refine ⟨_, rfl, ite2 (fun _ => ?_) (fun _ => ?_)⟩
    · exact q 2 _ S5 ((sr4.same s5).mono (by omega)) (by decide) (by decide)
    · exact ⟨.int m, rfl, q m _ S5 ((sr4.same s5).mono (by omega)) m1 m2⟩
end

section
variable {P : Program} {w : World} {K : PySem.W.Frag} {mg : Str → Option Value} {base : Heap}
/-! ### calls of a wall -/
inductive Dd where
  | add (g : List Int)
  | rsz (m : Nat)
  | put (i : Nat) (h : Int)
  | shf (i j : Nat)
  | str (i : Nat) (h : Int)
  | tak (i : Nat)
def Dd.kind : Dd → Str
  | .add _ => "add" | .rsz _ => "resize" | .put _ _ => "put" | .shf _ _ => "shift" | .str _ _ => "stretch" | .tak _ => "take"
def Dd.args : Dd → List Int
  | .add g => g | .rsz m => [m] | .put i h => [i, h] | .shf i j => [i, j] | .str i h => [i, h] | .tak i => [i]
def Dd.fits : Dd → List Int → Prop
  | .add g, ks => g.length ≤ 3 ∧ (∀ k ∈ g, 1 ≤ k ∧ k ≤ big) ∧ ks.length + g.length ≤ 200
  | .rsz m, _ => 1 ≤ m ∧ m ≤ 30
  | .put i h, ks => i ≤ ks.length ∧ 1 ≤ h ∧ h ≤ big ∧ ks.length < 200
  | .shf i j, ks => i < ks.length ∧ j < ks.length
  | .str i h, ks => i < ks.length ∧ 1 ≤ h ∧ h ≤ big
  | .tak i, ks => i < ks.length
def Dd.ks : Dd → List Int → List Int
  | .add g, ks => ks ++ g
  | .rsz _, ks => ks
  | .put i h, ks => insAt ks i h
  | .shf i j, ks => insAt (delAt ks i) j (ks.getD i 0)
  | .str i h, ks => insAt (delAt ks i) i h
  | .tak i, ks => delAt ks i
def Dd.n : Dd → Nat → Nat
  | .rsz m, _ => m
  | _, n => n
/-- good heights -/
def Hts (ks : List Int) : Prop := ∀ k ∈ ks, 1 ≤ k ∧ k ≤ big
theorem Hts.del {ks : List Int} (h : Hts ks) (i : Nat) : Hts (delAt ks i) := fun k hk => by
  unfold delAt at hk
  rcases List.mem_append.mp hk with z | z
  · exact h k (List.mem_of_mem_take z)
  · exact h k (List.mem_of_mem_drop z)
theorem Hts.ins {ks : List Int} {x : Int} (h : Hts ks) (hx : 1 ≤ x ∧ x ≤ big) (i : Nat) : Hts (insAt ks i x) := fun k hk => by
  unfold insAt at hk
  rcases List.mem_append.mp hk with z | z
  · rcases List.mem_append.mp z with z | z
    · exact h k (List.mem_of_mem_take z)
    · rw [List.mem_singleton.mp z]; exact hx
  · exact h k (List.mem_of_mem_drop z)
theorem Dd.hts {d : Dd} {ks : List Int} (h : Hts ks) (f : d.fits ks) : Hts (d.ks ks) ∧ (ks.length ≤ 200 → (d.ks ks).length ≤ 200) := by
  cases d with
  | add g => exact ⟨fun k hk => (List.mem_append.mp hk).elim (h k) (f.2.1 k), fun _ => by show (ks ++ g).length ≤ 200; rw [List.length_append]; exact f.2.2⟩
  | rsz m => exact ⟨h, id⟩
  | put i x => exact ⟨h.ins ⟨f.2.1, f.2.2.1⟩ i, fun _ => by show (insAt ks i x).length ≤ 200; rw [insAt_len f.1]; have := f.2.2.2; omega⟩
  | shf i j =>
    have e : ks[i]? = some (ks.getD i 0) := by rw [List.getD_eq_getElem?_getD, List.getElem?_eq_getElem f.1]; rfl
    have l := delAt_len f.1
    refine ⟨(h.del i).ins (h _ (List.mem_of_getElem? e)) j, fun z => ?_⟩
    show (insAt _ _ _).length ≤ 200
    rw [insAt_len (by have := f.2; omega)]; have := f.1; omega
  | str i x =>
    have l := delAt_len f.1
    refine ⟨(h.del i).ins f.2 i, fun z => ?_⟩
    show (insAt _ _ _).length ≤ 200
    rw [insAt_len (by have := f.1; omega)]; have := f.1; omega
  | tak i => exact ⟨h.del i, fun z => by show (delAt ks i).length ≤ 200; rw [delAt_len f]; omega⟩
theorem Dd.nn {d : Dd} {ks : List Int} {n : Nat} (f : d.fits ks) (n1 : 1 ≤ n) (n2 : n ≤ 30) : 1 ≤ d.n n ∧ d.n n ≤ 30 := by
  cases d <;> first | exact f | exact ⟨n1, n2⟩
/-- a call as the law holds it -/
def DdV (H : Hp) (v : V) (d : Dd) : Prop := ∃ t l, v = .ref t ∧ H t = some (.tup [.str d.kind, .ref l]) ∧ H l = some (.lst (d.args.map V.int))
theorem DdV.same {H H' : Hp} {v : V} {d : Dd} (h : DdV H v d) (s : Same H H') : DdV H' v d := by
  obtain ⟨t, l, e, h1, h2⟩ := h
  exact ⟨t, l, e, s _ _ h1, s _ _ h2⟩
/-- what a call answers -/
def Ans (H : Hp) (v : V) (d : Dd) (r : Bool) (g : Int) (n : Nat) (ks : List Int) : Prop := match d with
  | .add a => ∃ c, v = .ref c ∧ H c = some (.lst (((colsV r g n (ks ++ a)).drop ks.length).map V.int))
  | _ => v = .non
def spAdd (C : Addr) : Sp := fun vs H Q _ => ∃ (x dx l1 l2 b : Addr) (n : Nat) (r : Bool) (g : Int) (hs ks : List Int) (cs : List V), vs = [.ref x, .ref b] ∧ Wl H x C dx l1 l2 n r g hs cs ∧ cs.length < 1000 ∧ H b = some (.lst (ks.map V.int)) ∧ ks.length ≤ 3 ∧
  (∀ k ∈ ks, 1 ≤ k ∧ k ≤ big) ∧ hs.length + ks.length ≤ 200 ∧ 1 ≤ n ∧ n ≤ 30 ∧ ∀ c, H c = none → ChgQ C H x dx l1 l2 n n r g (hs ++ ks) cs fun H' => H' c = some (.lst (((colsV r g n (hs ++ ks)).drop hs.length).map V.int)) → Q (.ref c) H'
theorem ok_law_add (T : Txt K mg) : FnOk P w K mg base CX0 8 T.a_law_add T.d_law_add ["one", "g"] (spAdd T.C_Wall) := by
  refine T.F_law_add.ok sc_law_add (fun vs H Q E h => ?_) (fun cdv A outer s H vs Q E hr h => ?_)
  · obtain ⟨x, dx, l1, l2, b, n, r, g, hs, ks, cs, rfl, _⟩ := h; rfl
  · obtain ⟨x, dx, l1, l2, b, n, r, g, hs, ks, cs, rfl, wl, lc, eb, l3, hk, le, n1, n2, q⟩ := h
    refine ⟨_, (pss_cons (ps_if (pt_cmpR op_eq (pe_callB call_len_seq (by rfl) T.z_len (by decide +kernel) (pa_cons (pv 1) pa_nil)) pe_int (nomark _))
  (pss_one (ps_ret (pe_methR0 (pv 0) T.cl_Wall T.me_Wall_add (ok_Wall_add T) (hr.mono (by decide)) pass0)))
  pss_nil)
  (pss_cons (ps_if (pt_cmpR op_eq (pe_callB call_len_seq (by rfl) T.z_len (by decide +kernel) (pa_cons (pv 1) pa_nil)) pe_int (nomark _))
  (pss_one (ps_ret (pe_methR (pv 0) T.cl_Wall T.me_Wall_add (ok_Wall_add T) (hr.mono (by decide)) pass0 (pa_cons (pe_ix ix_list (pv 1) pe_int (fun _ _ => rfl)) pa_nil))))
  pss_nil)
  (pss_cons (ps_if (pt_cmpR op_eq (pe_callB call_len_seq (by rfl) T.z_len (by decide +kernel) (pa_cons (pv 1) pa_nil)) pe_int (nomark _))
  (pss_one (ps_ret (pe_methR (pv 0) T.cl_Wall T.me_Wall_add (ok_Wall_add T) (hr.mono (by decide)) pass0 (pa_cons (pe_ix ix_list (pv 1) pe_int (fun _ _ => rfl)) (pa_cons (pe_ix ix_list (pv 1) pe_int (fun _ _ => rfl)) pa_nil)))))
  pss_nil)
  (pss_cons (ps_if (pt_cmpR op_eq (pe_callB call_len_seq (by rfl) T.z_len (by decide +kernel) (pa_cons (pv 1) pa_nil)) pe_int (nomark _))
  (pss_one (ps_ret (pe_methR (pv 0) T.cl_Wall T.me_Wall_add (ok_Wall_add T) (hr.mono (by decide)) pass0 (pa_cons (pe_ix ix_list (pv 1) pe_int (fun _ _ => rfl)) (pa_cons (pe_ix ix_list (pv 1) pe_int (fun _ _ => rfl)) (pa_cons (pe_ix ix_list (pv 1) pe_int (fun _ _ => rfl)) pa_nil))))))
  pss_nil)
  (pss_cons (ps_if (pt_cmpR op_eq (pe_callB call_len_seq (by rfl) T.z_len (by decide +kernel) (pa_cons (pv 1) pa_nil)) pe_int (nomark _))
  (pss_one (ps_ret (pe_methR (pv 0) T.cl_Wall T.me_Wall_add (ok_Wall_add T) (hr.mono (by decide)) pass0 (pa_cons (pe_ix ix_list (pv 1) pe_int (fun _ _ => rfl)) (pa_cons (pe_ix ix_list (pv 1) pe_int (fun _ _ => rfl)) (pa_cons (pe_ix ix_list (pv 1) pe_int (fun _ _ => rfl)) (pa_cons (pe_ix ix_list (pv 1) pe_int (fun _ _ => rfl)) (pa_cons (pe_ix ix_list (pv 1) pe_int (fun _ _ => rfl)) (pa_cons (pe_ix ix_list (pv 1) pe_int (fun _ _ => rfl)) (pa_cons (pe_ix ix_list (pv 1) pe_int (fun _ _ => rfl)) (pa_cons (pe_ix ix_list (pv 1) pe_int (fun _ _ => rfl)) (pa_cons (pe_ix ix_list (pv 1) pe_int (fun _ _ => rfl)) (pa_cons (pe_ix ix_list (pv 1) pe_int (fun _ _ => rfl)) pa_nil)))))))))))))
  pss_nil)
  (pss_one (ps_ret (pe_methR (pv 0) T.cl_Wall T.me_Wall_add (ok_Wall_add T) (hr.mono (by decide)) pass0 (pa_cons (pe_ix ix_list (pv 1) pe_int (fun _ _ => rfl)) (pa_cons (pe_ix ix_list (pv 1) pe_int (fun _ _ => rfl)) (pa_cons (pe_ix ix_list (pv 1) pe_int (fun _ _ => rfl)) (pa_cons (pe_ix ix_list (pv 1) pe_int (fun _ _ => rfl)) (pa_cons (pe_ix ix_list (pv 1) pe_int (fun _ _ => rfl)) (pa_cons (pe_ix ix_list (pv 1) pe_int (fun _ _ => rfl)) (pa_cons (pe_ix ix_list (pv 1) pe_int (fun _ _ => rfl)) (pa_cons (pe_ix ix_list (pv 1) pe_int (fun _ _ => rfl)) (pa_cons (pe_ix ix_list (pv 1) pe_int (fun _ _ => rfl)) (pa_cons (pe_ix ix_list (pv 1) pe_int (fun _ _ => rfl)) (pa_cons (pe_ix ix_list (pv 1) pe_int (fun _ _ => rfl)) (pa_cons (pe_ix ix_list (pv 1) pe_int (fun _ _ => rfl)) (pa_cons (pe_ix ix_list (pv 1) pe_int (fun _ _ => rfl)) (pa_cons (pe_ix ix_list (pv 1) pe_int (fun _ _ => rfl)) (pa_cons (pe_ix ix_list (pv 1) pe_int (fun _ _ => rfl)) (pa_cons (pe_ix ix_list (pv 1) pe_int (fun _ _ => rfl)) (pa_cons (pe_ix ix_list (pv 1) pe_int (fun _ _ => rfl)) (pa_cons (pe_ix ix_list (pv 1) pe_int (fun _ _ => rfl)) (pa_cons (pe_ix ix_list (pv 1) pe_int (fun _ _ => rfl)) (pa_cons (pe_ix ix_list (pv 1) pe_int (fun _ _ => rfl)) pa_nil)))))))))))))))))))))))))))), ?_⟩
    have key : ∀ vs : List V, vs = ks.map V.int → ∃ ws rest, V.ref x :: vs = ws ++ rest ∧ ws.length = ["self"].length ∧ rest.length ≤ sizeLine ∧ ∀ p, H p = Option.none → spAdd0 T.C_Wall (ws ++ [V.ref p]) (L2.upd H p (.tup rest)) Q E0 := fun vs ev => by
      refine ⟨[.ref x], vs, rfl, rfl, (by rw [ev, List.length_map]; exact small_le (m := 1000) (by omega) (by decide)), fun p np => ?_⟩
      have s1 := same_new (H := H) (p := p) (.tup vs) np
      refine ⟨x, dx, l1, l2, p, n, r, g, hs, ks, cs, rfl, wl.same s1, lc, by rw [upd_same, ev], hk, le, n1, n2, fun c nc t m1 H' nt om bu et w' ec => ?_⟩
      exact q c (s1.free nc) t m1 H' (s1.free nt) (om.imp s1.free id) (fun d o h1 h2 e => bu d o h1 h2 (s1 _ _ e)) et w' ec
    rcases ks with _ | ⟨k1, _ | ⟨k2, _ | ⟨k3, _ | ⟨k4, kr⟩⟩⟩⟩
    · exact ⟨.ref b, rfl, b, _, rfl, .inl (SqL.of eb), rfl, _, rfl, ite_t (by simp) ⟨.ref x, rfl, x, dx, _, rfl, wl.ob, rfl, key _ rfl⟩⟩
    · refine ⟨.ref b, rfl, b, _, rfl, .inl (SqL.of eb), rfl, _, rfl, ite_f (by simp) ?_⟩
      exact ⟨.ref b, rfl, b, _, rfl, .inl (SqL.of eb), rfl, _, rfl, ite_t (by simp) ⟨.ref x, rfl, x, dx, _, rfl, wl.ob, rfl, .ref b, rfl, b, _, _, .int k1, rfl, rfl, SqL.of eb, rfl, key _ rfl⟩⟩
    · refine ⟨.ref b, rfl, b, _, rfl, .inl (SqL.of eb), rfl, _, rfl, ite_f (by simp) ?_⟩
      refine ⟨.ref b, rfl, b, _, rfl, .inl (SqL.of eb), rfl, _, rfl, ite_f (by simp) ?_⟩
      exact ⟨.ref b, rfl, b, _, rfl, .inl (SqL.of eb), rfl, _, rfl, ite_t (by simp) ⟨.ref x, rfl, x, dx, _, rfl, wl.ob, rfl, .ref b, rfl, b, _, _, .int k1, rfl, rfl, SqL.of eb, rfl, .ref b, rfl, b, _, _, .int k2, rfl, rfl, SqL.of eb, rfl, key _ rfl⟩⟩
    · refine ⟨.ref b, rfl, b, _, rfl, .inl (SqL.of eb), rfl, _, rfl, ite_f (by simp) ?_⟩
      refine ⟨.ref b, rfl, b, _, rfl, .inl (SqL.of eb), rfl, _, rfl, ite_f (by simp) ?_⟩
      refine ⟨.ref b, rfl, b, _, rfl, .inl (SqL.of eb), rfl, _, rfl, ite_f (by simp) ?_⟩
      exact ⟨.ref b, rfl, b, _, rfl, .inl (SqL.of eb), rfl, _, rfl, ite_t (by simp) ⟨.ref x, rfl, x, dx, _, rfl, wl.ob, rfl, .ref b, rfl, b, _, _, .int k1, rfl, rfl, SqL.of eb, rfl, .ref b, rfl, b, _, _, .int k2, rfl, rfl, SqL.of eb, rfl, .ref b, rfl, b, _, _, .int k3, rfl, rfl, SqL.of eb, rfl, key _ rfl⟩⟩
    · simp only [List.length_cons] at l3; omega
end

section
variable {P : Program} {w : World} {K : PySem.W.Frag} {mg : Str → Option Value} {base : Heap}
theorem kne {a b : Str} (h : a ≠ b) : ¬ (decide (V.str a = V.str b) = true) := fun e => h (by have := of_decide_eq_true e; injection this)
theorem keq {a : Str} : decide (V.str a = V.str a) = true := decide_eq_true rfl
def spAfter : Sp := fun vs H Q _ => ∃ (t c : Addr) (v : V) (n : Nat) (ks : List Int) (d : Dd), vs = [.ref t, v] ∧ H t = some (.tup [.ref c, .int n]) ∧ H c = some (.lst (ks.map V.int)) ∧ DdV H v d ∧ d.fits ks ∧ ks.length ≤ 200 ∧
  ∀ t' c' H', Same H H' → H t' = none → (H c' = none ∨ c' = c) → H' t' = some (.tup [.ref c', .int (d.n n)]) → H' c' = some (.lst ((d.ks ks).map V.int)) → Q (.ref t') H'
theorem cutTo (xs : List Int) (k : Nat) : cutV (xs.map V.int) none (some (k : Int)) = (xs.take k).map V.int := by
  unfold cutV
  rw [HT.sIx_none, HT.sIx_nat]
  show ((xs.map V.int).drop 0).take (min k (xs.map V.int).length - 0) = _
  rw [List.drop_zero, Nat.sub_zero, List.map_take]
  rcases Nat.le_total k (xs.map V.int).length with h | h
  · rw [Nat.min_eq_left h]
  · rw [Nat.min_eq_right h, List.take_length, List.take_of_length_le h]
theorem cutFrom (xs : List Int) (k : Nat) : cutV (xs.map V.int) (some (k : Int)) none = (xs.drop k).map V.int := by rw [cutV_from, List.map_drop]
set_option maxHeartbeats 1000000 in
theorem ok_law_after (T : Txt K mg) : FnOk P w K mg base CX0 1 T.a_law_after T.d_law_after ["state", "deed"] spAfter := by
  refine T.F_law_after.ok sc_law_after (fun vs H Q E h => ?_) (fun cdv A outer s H vs Q E hr h => ?_)
  · obtain ⟨t, c, v, n, ks, d, rfl, _⟩ := h; rfl
  · obtain ⟨t, c, v, n, ks, d, rfl, et, ec, ⟨td, l, rfl, ed, el⟩, ft, lk, q⟩ := h
    refine ⟨_, (pss_cons (ps_asg (pv 0) (pg_tup rfl (pgs_cons (pg_name (i := 2) sc_law_after.nd rfl (.inl rfl)) (pgs_cons (pg_name (i := 3) sc_law_after.nd rfl (.inl rfl)) pgs_nil))))
  (pss_cons (ps_asg (pv 1) (pg_tup rfl (pgs_cons (pg_name (i := 4) sc_law_after.nd rfl (.inl rfl)) (pgs_cons (pg_name (i := 5) sc_law_after.nd rfl (.inl rfl)) pgs_nil))))
  (pss_cons (ps_if (pt_cmpR op_eq (pv 4) pe_str (nomark _))
  (pss_one (ps_ret (pe_tup (pa_cons (pe_op op_cat (pv 2) (pv 5)) (pa_cons (pv 3) pa_nil)))))
  pss_nil)
  (pss_cons (ps_if (pt_cmpR op_eq (pv 4) pe_str (nomark _))
  (pss_one (ps_ret (pe_tup (pa_cons (pv 2) (pa_cons (pe_ix ix_list (pv 5) pe_int (fun _ _ => rfl)) pa_nil)))))
  pss_nil)
  (pss_cons (ps_set (i := 6) sc_law_after.nd rfl (.inl rfl) (pe_ix ix_list (pv 5) pe_int (fun _ _ => rfl)))
  (pss_cons (ps_set (i := 7) sc_law_after.nd rfl (.inl rfl) (pe_op op_cat (pe_slice sl_list (pv 2) po_none (po_some (pv 6))) (pe_slice sl_list (pv 2) (po_some (pe_op op_add (pv 6) pe_int)) po_none)))
  (pss_cons (ps_if (pt_cmpR op_eq (pv 4) pe_str (nomark _))
  (pss_one (ps_ret (pe_tup (pa_cons (pe_op op_cat (pe_op op_cat (pe_slice sl_list (pv 2) po_none (po_some (pv 6))) (pe_lst (pa_cons (pe_ix ix_list (pv 5) pe_int (fun _ _ => rfl)) pa_nil))) (pe_slice sl_list (pv 2) (po_some (pv 6)) po_none)) (pa_cons (pv 3) pa_nil)))))
  pss_nil)
  (pss_cons (ps_if (pt_cmpR op_eq (pv 4) pe_str (nomark _))
  (pss_one (ps_ret (pe_tup (pa_cons (pe_op op_cat (pe_op op_cat (pe_slice sl_list (pv 7) po_none (po_some (pe_ix ix_list (pv 5) pe_int (fun _ _ => rfl)))) (pe_lst (pa_cons (pe_ix ix_list (pv 2) (pv 6) (fun _ _ => rfl)) pa_nil))) (pe_slice sl_list (pv 7) (po_some (pe_ix ix_list (pv 5) pe_int (fun _ _ => rfl))) po_none)) (pa_cons (pv 3) pa_nil)))))
  pss_nil)
  (pss_cons (ps_if (pt_cmpR op_eq (pv 4) pe_str (nomark _))
  (pss_one (ps_ret (pe_tup (pa_cons (pe_op op_cat (pe_op op_cat (pe_slice sl_list (pv 7) po_none (po_some (pv 6))) (pe_lst (pa_cons (pe_ix ix_list (pv 5) pe_int (fun _ _ => rfl)) pa_nil))) (pe_slice sl_list (pv 7) (po_some (pv 6)) po_none)) (pa_cons (pv 3) pa_nil)))))
  pss_nil)
  (pss_one (ps_ret (pe_tup (pa_cons (pv 7) (pa_cons (pv 3) pa_nil)))))))))))))), ?_⟩
    refine ⟨.ref t, rfl, t, [_, _], rfl, SqT.of et, rfl, _, [_], rfl, _, [], rfl, rfl, ?_⟩
    refine ⟨.ref td, rfl, td, [_, _], rfl, SqT.of ed, rfl, _, [_], rfl, _, [], rfl, rfl, ?_⟩
    cases d with
    | add g =>
      refine ⟨_, rfl, rfl, _, rfl, ite_t keq ?_⟩
      refine ⟨.ref c, rfl, .ref l, rfl, c, l, _, _, rfl, rfl, ec, el, (by rw [List.length_map, List.length_map]; have := ft.1; exact small_le (m := 1000) (by show _ + g.length ≤ _; omega) (by decide)), fun p np => ?_⟩
      have s1 := same_new (H := H) (p := p) (.lst (ks.map V.int ++ g.map V.int)) np
      have e1 : (L2.upd H p (.lst (ks.map V.int ++ g.map V.int))) p = some (.lst ((ks ++ g).map V.int)) := by rw [upd_same, List.map_append]
      have e1' : (L2.upd H p (.lst (ks.map V.int ++ (Dd.add g).args.map V.int))) p = some (.lst ((ks ++ g).map V.int)) := e1
      have s1' : Same H (L2.upd H p (.lst (ks.map V.int ++ (Dd.add g).args.map V.int))) := s1
      generalize L2.upd H p _ = H1 at s1' e1' ⊢
      refine ⟨.int n, rfl, (by show 2 ≤ sizeLine; decide), fun t' nt => ?_⟩
      have u6 := same_new (H := H1) (p := t') (.tup [.ref p, .int n]) nt
      exact q t' p _ (s1'.trans u6) (s1'.free nt) (.inl np) upd_same (u6 _ _ e1')
    | rsz m =>
      refine ⟨_, rfl, rfl, _, rfl, ite_f (kne (show ("resize" : Str) ≠ _ by decide +kernel)) ?_⟩
      refine ⟨_, rfl, rfl, _, rfl, ite_t keq ?_⟩
      refine ⟨.ref c, rfl, .ref l, rfl, l, _, _, .int m, rfl, rfl, SqL.of (el), rfl, (by show 2 ≤ sizeLine; decide), fun t' nt => ?_⟩
      have u6 := same_new (H := H) (p := t') (.tup [.ref c, .int m]) nt
      exact q t' c _ u6 nt (.inr rfl) upd_same (u6 _ _ ec)
    | put i v =>
      refine ⟨_, rfl, rfl, _, rfl, ite_f (kne (show ("put" : Str) ≠ _ by decide +kernel)) ?_⟩
      refine ⟨_, rfl, rfl, _, rfl, ite_f (kne (show ("put" : Str) ≠ _ by decide +kernel)) ?_⟩
      refine ⟨.ref l, rfl, l, _, _, .int i, rfl, rfl, SqL.of (el), rfl, ?_⟩
      refine ⟨.ref c, rfl, _, rfl, (i : Int), rfl, c, _, rfl, SqL.of ec, fun p1 n1 => ?_⟩
      rw [cutTo]
      have s1 := same_new (H := H) (p := p1) (.lst ((ks.take i).map V.int)) n1
      have e1 : (L2.upd H p1 (.lst ((ks.take i).map V.int))) p1 = some (.lst ((ks.take i).map V.int)) := upd_same
      generalize L2.upd H p1 _ = H1 at s1 e1 ⊢
      refine ⟨.ref c, rfl, _, rfl, (i : Int), 1, rfl, rfl, ((i : Int) + 1), rfl, c, _, rfl, SqL.of (s1 _ _ ec), fun p2 n2 => ?_⟩
      have ej : ((i : Int) + 1) = ((i + 1 : Nat) : Int) := by omega
      rw [ej, cutFrom]
      have s2 := same_new (H := H1) (p := p2) (.lst ((ks.drop (i + 1)).map V.int)) n2
      have e2 : (L2.upd H1 p2 (.lst ((ks.drop (i + 1)).map V.int))) p2 = some (.lst ((ks.drop (i + 1)).map V.int)) := upd_same
      generalize L2.upd H1 p2 _ = H2 at s2 e2 ⊢
      refine ⟨p1, p2, _, _, rfl, rfl, s2 _ _ e1, e2, ?_, fun p3 n3 => ?_⟩
      · rw [List.length_map, List.length_take, List.length_map, List.length_drop]
        exact small_le (m := 1000) (by omega) (by decide)
      have s3 := same_new (H := H2) (p := p3) (.lst ((ks.take i).map V.int ++ (ks.drop (i + 1)).map V.int)) n3
      have e3 : (L2.upd H2 p3 (.lst ((ks.take i).map V.int ++ (ks.drop (i + 1)).map V.int))) p3 = some (.lst ((delAt ks i).map V.int)) := by rw [upd_same]; unfold delAt; rw [List.map_append]
      generalize L2.upd H2 p3 _ = H3 at s3 e3 ⊢
      have S3 := s1.trans (s2.trans s3)
      refine ⟨_, rfl, rfl, _, rfl, ite_t keq ?_⟩
      refine ⟨.ref c, rfl, _, rfl, (i : Int), rfl, c, _, rfl, SqL.of (S3 _ _ ec), fun q1 m1 => ?_⟩
      rw [cutTo]
      have u1 := same_new (H := H3) (p := q1) (.lst ((ks.take i).map V.int)) m1
      have f1 : (L2.upd H3 q1 (.lst ((ks.take i).map V.int))) q1 = some (.lst ((ks.take i).map V.int)) := upd_same
      generalize L2.upd H3 q1 _ = G1 at u1 f1 ⊢
      have U1 := S3.trans u1
      refine ⟨.ref l, rfl, l, _, _, .int v, rfl, rfl, SqL.of (U1 _ _ el), rfl, (by show 1 ≤ sizeLine; decide), fun q2 m2 => ?_⟩
      have u2 := same_new (H := G1) (p := q2) (.lst [.int v]) m2
      have f2 : (L2.upd G1 q2 (.lst [.int v])) q2 = some (.lst [.int v]) := upd_same
      generalize L2.upd G1 q2 _ = G2 at u2 f2 ⊢
      refine ⟨q1, q2, _, _, rfl, rfl, u2 _ _ f1, f2, ?_, fun q3 m3 => ?_⟩
      · rw [List.length_map, List.length_take, List.length_singleton]
        exact small_le (m := 1000) (by omega) (by decide)
      have u3 := same_new (H := G2) (p := q3) (.lst ((ks.take i).map V.int ++ [.int v])) m3
      have f3 : (L2.upd G2 q3 (.lst ((ks.take i).map V.int ++ [.int v]))) q3 = some (.lst ((ks.take i).map V.int ++ [.int v])) := upd_same
      generalize L2.upd G2 q3 _ = G3 at u3 f3 ⊢
      have U3 := u1.trans (u2.trans u3)
      have T3 := S3.trans U3
      refine ⟨.ref c, rfl, _, rfl, (i : Int), rfl, c, _, rfl, SqL.of (U3 _ _ (S3 _ _ ec)), fun q4 m4 => ?_⟩
      rw [cutFrom]
      have u4 := same_new (H := G3) (p := q4) (.lst ((ks.drop i).map V.int)) m4
      have f4 : (L2.upd G3 q4 (.lst ((ks.drop i).map V.int))) q4 = some (.lst ((ks.drop i).map V.int)) := upd_same
      generalize L2.upd G3 q4 _ = G4 at u4 f4 ⊢
      refine ⟨q3, q4, _, _, rfl, rfl, u4 _ _ f3, f4, ?_, fun q5 m5 => ?_⟩
      · rw [List.length_append, List.length_map, List.length_take, List.length_singleton, List.length_map, List.length_drop]
        exact small_le (m := 1000) (by omega) (by decide)
      have u5 := same_new (H := G4) (p := q5) (.lst ((ks.take i).map V.int ++ [.int v] ++ (ks.drop i).map V.int)) m5
      have f5 : (L2.upd G4 q5 (.lst ((ks.take i).map V.int ++ [.int v] ++ (ks.drop i).map V.int))) q5 = some (.lst ((insAt ks i v).map V.int)) := by rw [upd_same]; unfold insAt; rw [List.map_append, List.map_append]; rfl
      generalize L2.upd G4 q5 _ = G5 at u5 f5 ⊢
      have T5 := T3.trans (u4.trans u5)
      refine ⟨.int n, rfl, (by show 2 ≤ sizeLine; decide), fun t' nt => ?_⟩
      have u6 := same_new (H := G5) (p := t') (.tup [.ref q5, .int n]) nt
      exact q t' q5 _ (T5.trans u6) (T5.free nt) (.inl ((T3.trans u4).free m5)) upd_same (u6 _ _ f5)
    | shf i j =>
      obtain ⟨fi, fj⟩ := ft
      have ld := delAt_len fi
      obtain ⟨v, ev⟩ : ∃ v, ks.getD i 0 = v := ⟨_, rfl⟩
      have gv : ks[i]? = some v := by rw [← ev, List.getD_eq_getElem?_getD, List.getElem?_eq_getElem fi]; rfl
      have q : ∀ t' c' H', Same H H' → H t' = none → (H c' = none ∨ c' = c) → H' t' = some (.tup [.ref c', .int n]) → H' c' = some (.lst ((insAt (delAt ks i) j v).map V.int)) → Q (.ref t') H' := by rw [← ev]; exact q
      refine ⟨_, rfl, rfl, _, rfl, ite_f (kne (show ("shift" : Str) ≠ _ by decide +kernel)) ?_⟩
      refine ⟨_, rfl, rfl, _, rfl, ite_f (kne (show ("shift" : Str) ≠ _ by decide +kernel)) ?_⟩
      refine ⟨.ref l, rfl, l, _, _, .int i, rfl, rfl, SqL.of (el), rfl, ?_⟩
      refine ⟨.ref c, rfl, _, rfl, (i : Int), rfl, c, _, rfl, SqL.of ec, fun p1 n1 => ?_⟩
      rw [cutTo]
      have s1 := same_new (H := H) (p := p1) (.lst ((ks.take i).map V.int)) n1
      have e1 : (L2.upd H p1 (.lst ((ks.take i).map V.int))) p1 = some (.lst ((ks.take i).map V.int)) := upd_same
      generalize L2.upd H p1 _ = H1 at s1 e1 ⊢
      refine ⟨.ref c, rfl, _, rfl, (i : Int), 1, rfl, rfl, ((i : Int) + 1), rfl, c, _, rfl, SqL.of (s1 _ _ ec), fun p2 n2 => ?_⟩
      have ej : ((i : Int) + 1) = ((i + 1 : Nat) : Int) := by omega
      rw [ej, cutFrom]
      have s2 := same_new (H := H1) (p := p2) (.lst ((ks.drop (i + 1)).map V.int)) n2
      have e2 : (L2.upd H1 p2 (.lst ((ks.drop (i + 1)).map V.int))) p2 = some (.lst ((ks.drop (i + 1)).map V.int)) := upd_same
      generalize L2.upd H1 p2 _ = H2 at s2 e2 ⊢
      refine ⟨p1, p2, _, _, rfl, rfl, s2 _ _ e1, e2, ?_, fun p3 n3 => ?_⟩
      · rw [List.length_map, List.length_take, List.length_map, List.length_drop]
        exact small_le (m := 1000) (by omega) (by decide)
      have s3 := same_new (H := H2) (p := p3) (.lst ((ks.take i).map V.int ++ (ks.drop (i + 1)).map V.int)) n3
      have e3 : (L2.upd H2 p3 (.lst ((ks.take i).map V.int ++ (ks.drop (i + 1)).map V.int))) p3 = some (.lst ((delAt ks i).map V.int)) := by rw [upd_same]; unfold delAt; rw [List.map_append]
      generalize L2.upd H2 p3 _ = H3 at s3 e3 ⊢
      have S3 := s1.trans (s2.trans s3)
      refine ⟨_, rfl, rfl, _, rfl, ite_f (kne (show ("shift" : Str) ≠ _ by decide +kernel)) ?_⟩
      refine ⟨_, rfl, rfl, _, rfl, ite_t keq ?_⟩
      refine ⟨.ref p3, rfl, .ref l, rfl, l, _, _, .int j, rfl, rfl, SqL.of (S3 _ _ el), rfl, (j : Int), rfl, p3, _, rfl, SqL.of (e3), fun q1 m1 => ?_⟩
      rw [cutTo]
      have u1 := same_new (H := H3) (p := q1) (.lst (((delAt ks i).take j).map V.int)) m1
      have f1 : (L2.upd H3 q1 (.lst (((delAt ks i).take j).map V.int))) q1 = some (.lst (((delAt ks i).take j).map V.int)) := upd_same
      generalize L2.upd H3 q1 _ = G1 at u1 f1 ⊢
      have U1 := S3.trans u1
      refine ⟨.ref c, rfl, _, rfl, c, _, _, .int v, rfl, rfl, SqL.of (U1 _ _ ec), atI_nat (by rw [List.getElem?_map, gv]; rfl), (by show 1 ≤ sizeLine; decide), fun q2 m2 => ?_⟩
      have u2 := same_new (H := G1) (p := q2) (.lst [.int v]) m2
      have f2 : (L2.upd G1 q2 (.lst [.int v])) q2 = some (.lst [.int v]) := upd_same
      generalize L2.upd G1 q2 _ = G2 at u2 f2 ⊢
      refine ⟨q1, q2, _, _, rfl, rfl, u2 _ _ f1, f2, ?_, fun q3 m3 => ?_⟩
      · rw [List.length_map, List.length_take, List.length_singleton]
        exact small_le (m := 1000) (by omega) (by decide)
      have u3 := same_new (H := G2) (p := q3) (.lst (((delAt ks i).take j).map V.int ++ [.int v])) m3
      have f3 : (L2.upd G2 q3 (.lst (((delAt ks i).take j).map V.int ++ [.int v]))) q3 = some (.lst (((delAt ks i).take j).map V.int ++ [.int v])) := upd_same
      generalize L2.upd G2 q3 _ = G3 at u3 f3 ⊢
      have U3 := u1.trans (u2.trans u3)
      have T3 := S3.trans U3
      refine ⟨.ref p3, rfl, .ref l, rfl, l, _, _, .int j, rfl, rfl, SqL.of (T3 _ _ el), rfl, (j : Int), rfl, p3, _, rfl, SqL.of (U3 _ _ e3), fun q4 m4 => ?_⟩
      rw [cutFrom]
      have u4 := same_new (H := G3) (p := q4) (.lst (((delAt ks i).drop j).map V.int)) m4
      have f4 : (L2.upd G3 q4 (.lst (((delAt ks i).drop j).map V.int))) q4 = some (.lst (((delAt ks i).drop j).map V.int)) := upd_same
      generalize L2.upd G3 q4 _ = G4 at u4 f4 ⊢
      refine ⟨q3, q4, _, _, rfl, rfl, u4 _ _ f3, f4, ?_, fun q5 m5 => ?_⟩
      · rw [List.length_append, List.length_map, List.length_take, List.length_singleton, List.length_map, List.length_drop]
        exact small_le (m := 1000) (by omega) (by decide)
      have u5 := same_new (H := G4) (p := q5) (.lst (((delAt ks i).take j).map V.int ++ [.int v] ++ ((delAt ks i).drop j).map V.int)) m5
      have f5 : (L2.upd G4 q5 (.lst (((delAt ks i).take j).map V.int ++ [.int v] ++ ((delAt ks i).drop j).map V.int))) q5 = some (.lst ((insAt (delAt ks i) j v).map V.int)) := by rw [upd_same]; unfold insAt; rw [List.map_append, List.map_append]; rfl
      generalize L2.upd G4 q5 _ = G5 at u5 f5 ⊢
      have T5 := T3.trans (u4.trans u5)
      refine ⟨.int n, rfl, (by show 2 ≤ sizeLine; decide), fun t' nt => ?_⟩
      have u6 := same_new (H := G5) (p := t') (.tup [.ref q5, .int n]) nt
      exact q t' q5 _ (T5.trans u6) (T5.free nt) (.inl ((T3.trans u4).free m5)) upd_same (u6 _ _ f5)
    | str i v =>
      obtain ⟨fi, _⟩ := ft
      have ld := delAt_len fi
      refine ⟨_, rfl, rfl, _, rfl, ite_f (kne (show ("stretch" : Str) ≠ _ by decide +kernel)) ?_⟩
      refine ⟨_, rfl, rfl, _, rfl, ite_f (kne (show ("stretch" : Str) ≠ _ by decide +kernel)) ?_⟩
      refine ⟨.ref l, rfl, l, _, _, .int i, rfl, rfl, SqL.of (el), rfl, ?_⟩
      refine ⟨.ref c, rfl, _, rfl, (i : Int), rfl, c, _, rfl, SqL.of ec, fun p1 n1 => ?_⟩
      rw [cutTo]
      have s1 := same_new (H := H) (p := p1) (.lst ((ks.take i).map V.int)) n1
      have e1 : (L2.upd H p1 (.lst ((ks.take i).map V.int))) p1 = some (.lst ((ks.take i).map V.int)) := upd_same
      generalize L2.upd H p1 _ = H1 at s1 e1 ⊢
      refine ⟨.ref c, rfl, _, rfl, (i : Int), 1, rfl, rfl, ((i : Int) + 1), rfl, c, _, rfl, SqL.of (s1 _ _ ec), fun p2 n2 => ?_⟩
      have ej : ((i : Int) + 1) = ((i + 1 : Nat) : Int) := by omega
      rw [ej, cutFrom]
      have s2 := same_new (H := H1) (p := p2) (.lst ((ks.drop (i + 1)).map V.int)) n2
      have e2 : (L2.upd H1 p2 (.lst ((ks.drop (i + 1)).map V.int))) p2 = some (.lst ((ks.drop (i + 1)).map V.int)) := upd_same
      generalize L2.upd H1 p2 _ = H2 at s2 e2 ⊢
      refine ⟨p1, p2, _, _, rfl, rfl, s2 _ _ e1, e2, ?_, fun p3 n3 => ?_⟩
      · rw [List.length_map, List.length_take, List.length_map, List.length_drop]
        exact small_le (m := 1000) (by omega) (by decide)
      have s3 := same_new (H := H2) (p := p3) (.lst ((ks.take i).map V.int ++ (ks.drop (i + 1)).map V.int)) n3
      have e3 : (L2.upd H2 p3 (.lst ((ks.take i).map V.int ++ (ks.drop (i + 1)).map V.int))) p3 = some (.lst ((delAt ks i).map V.int)) := by rw [upd_same]; unfold delAt; rw [List.map_append]
      generalize L2.upd H2 p3 _ = H3 at s3 e3 ⊢
      have S3 := s1.trans (s2.trans s3)
      refine ⟨_, rfl, rfl, _, rfl, ite_f (kne (show ("stretch" : Str) ≠ _ by decide +kernel)) ?_⟩
      refine ⟨_, rfl, rfl, _, rfl, ite_f (kne (show ("stretch" : Str) ≠ _ by decide +kernel)) ?_⟩
      refine ⟨_, rfl, rfl, _, rfl, ite_t keq ?_⟩
      refine ⟨.ref p3, rfl, _, rfl, (i : Int), rfl, p3, _, rfl, SqL.of (e3), fun q1 m1 => ?_⟩
      rw [cutTo]
      have u1 := same_new (H := H3) (p := q1) (.lst (((delAt ks i).take i).map V.int)) m1
      have f1 : (L2.upd H3 q1 (.lst (((delAt ks i).take i).map V.int))) q1 = some (.lst (((delAt ks i).take i).map V.int)) := upd_same
      generalize L2.upd H3 q1 _ = G1 at u1 f1 ⊢
      have U1 := S3.trans u1
      refine ⟨.ref l, rfl, l, _, _, .int v, rfl, rfl, SqL.of (U1 _ _ el), rfl, (by show 1 ≤ sizeLine; decide), fun q2 m2 => ?_⟩
      have u2 := same_new (H := G1) (p := q2) (.lst [.int v]) m2
      have f2 : (L2.upd G1 q2 (.lst [.int v])) q2 = some (.lst [.int v]) := upd_same
      generalize L2.upd G1 q2 _ = G2 at u2 f2 ⊢
      refine ⟨q1, q2, _, _, rfl, rfl, u2 _ _ f1, f2, ?_, fun q3 m3 => ?_⟩
      · rw [List.length_map, List.length_take, List.length_singleton]
        exact small_le (m := 1000) (by omega) (by decide)
      have u3 := same_new (H := G2) (p := q3) (.lst (((delAt ks i).take i).map V.int ++ [.int v])) m3
      have f3 : (L2.upd G2 q3 (.lst (((delAt ks i).take i).map V.int ++ [.int v]))) q3 = some (.lst (((delAt ks i).take i).map V.int ++ [.int v])) := upd_same
      generalize L2.upd G2 q3 _ = G3 at u3 f3 ⊢
      have U3 := u1.trans (u2.trans u3)
      have T3 := S3.trans U3
      refine ⟨.ref p3, rfl, _, rfl, (i : Int), rfl, p3, _, rfl, SqL.of (U3 _ _ (e3)), fun q4 m4 => ?_⟩
      rw [cutFrom]
      have u4 := same_new (H := G3) (p := q4) (.lst (((delAt ks i).drop i).map V.int)) m4
      have f4 : (L2.upd G3 q4 (.lst (((delAt ks i).drop i).map V.int))) q4 = some (.lst (((delAt ks i).drop i).map V.int)) := upd_same
      generalize L2.upd G3 q4 _ = G4 at u4 f4 ⊢
      refine ⟨q3, q4, _, _, rfl, rfl, u4 _ _ f3, f4, ?_, fun q5 m5 => ?_⟩
      · rw [List.length_append, List.length_map, List.length_take, List.length_singleton, List.length_map, List.length_drop]
        exact small_le (m := 1000) (by omega) (by decide)
      have u5 := same_new (H := G4) (p := q5) (.lst (((delAt ks i).take i).map V.int ++ [.int v] ++ ((delAt ks i).drop i).map V.int)) m5
      have f5 : (L2.upd G4 q5 (.lst (((delAt ks i).take i).map V.int ++ [.int v] ++ ((delAt ks i).drop i).map V.int))) q5 = some (.lst ((insAt (delAt ks i) i v).map V.int)) := by rw [upd_same]; unfold insAt; rw [List.map_append, List.map_append]; rfl
      generalize L2.upd G4 q5 _ = G5 at u5 f5 ⊢
      have T5 := T3.trans (u4.trans u5)
      refine ⟨.int n, rfl, (by show 2 ≤ sizeLine; decide), fun t' nt => ?_⟩
      have u6 := same_new (H := G5) (p := t') (.tup [.ref q5, .int n]) nt
      exact q t' q5 _ (T5.trans u6) (T5.free nt) (.inl ((T3.trans u4).free m5)) upd_same (u6 _ _ f5)
    | tak i =>
      refine ⟨_, rfl, rfl, _, rfl, ite_f (kne (show ("take" : Str) ≠ _ by decide +kernel)) ?_⟩
      refine ⟨_, rfl, rfl, _, rfl, ite_f (kne (show ("take" : Str) ≠ _ by decide +kernel)) ?_⟩
      refine ⟨.ref l, rfl, l, _, _, .int i, rfl, rfl, SqL.of (el), rfl, ?_⟩
      refine ⟨.ref c, rfl, _, rfl, (i : Int), rfl, c, _, rfl, SqL.of ec, fun p1 n1 => ?_⟩
      rw [cutTo]
      have s1 := same_new (H := H) (p := p1) (.lst ((ks.take i).map V.int)) n1
      have e1 : (L2.upd H p1 (.lst ((ks.take i).map V.int))) p1 = some (.lst ((ks.take i).map V.int)) := upd_same
      generalize L2.upd H p1 _ = H1 at s1 e1 ⊢
      refine ⟨.ref c, rfl, _, rfl, (i : Int), 1, rfl, rfl, ((i : Int) + 1), rfl, c, _, rfl, SqL.of (s1 _ _ ec), fun p2 n2 => ?_⟩
      have ej : ((i : Int) + 1) = ((i + 1 : Nat) : Int) := by omega
      rw [ej, cutFrom]
      have s2 := same_new (H := H1) (p := p2) (.lst ((ks.drop (i + 1)).map V.int)) n2
      have e2 : (L2.upd H1 p2 (.lst ((ks.drop (i + 1)).map V.int))) p2 = some (.lst ((ks.drop (i + 1)).map V.int)) := upd_same
      generalize L2.upd H1 p2 _ = H2 at s2 e2 ⊢
      refine ⟨p1, p2, _, _, rfl, rfl, s2 _ _ e1, e2, ?_, fun p3 n3 => ?_⟩
      · rw [List.length_map, List.length_take, List.length_map, List.length_drop]
        exact small_le (m := 1000) (by omega) (by decide)
      have s3 := same_new (H := H2) (p := p3) (.lst ((ks.take i).map V.int ++ (ks.drop (i + 1)).map V.int)) n3
      have e3 : (L2.upd H2 p3 (.lst ((ks.take i).map V.int ++ (ks.drop (i + 1)).map V.int))) p3 = some (.lst ((delAt ks i).map V.int)) := by rw [upd_same]; unfold delAt; rw [List.map_append]
      generalize L2.upd H2 p3 _ = H3 at s3 e3 ⊢
      have S3 := s1.trans (s2.trans s3)
      refine ⟨_, rfl, rfl, _, rfl, ite_f (kne (show ("take" : Str) ≠ _ by decide +kernel)) ?_⟩
      refine ⟨_, rfl, rfl, _, rfl, ite_f (kne (show ("take" : Str) ≠ _ by decide +kernel)) ?_⟩
      refine ⟨_, rfl, rfl, _, rfl, ite_f (kne (show ("take" : Str) ≠ _ by decide +kernel)) ?_⟩
      refine ⟨.ref p3, rfl, .int n, rfl, (by show 2 ≤ sizeLine; decide), fun t' nt => ?_⟩
      have u6 := same_new (H := H3) (p := t') (.tup [.ref p3, .int n]) nt
      exact q t' p3 _ (S3.trans u6) (S3.free nt) (.inl ((s1.trans s2).free n3)) upd_same (u6 _ _ e3)
end

section
variable {P : Program} {w : World} {K : PySem.W.Frag} {mg : Str → Option Value} {base : Heap}
def spDo (C : Addr) : Sp := fun vs H Q _ => ∃ (x dx l1 l2 : Addr) (v : V) (n : Nat) (r : Bool) (g : Int) (ks : List Int) (cs : List V) (d : Dd), vs = [.ref x, v] ∧ Wl H x C dx l1 l2 n r g ks cs ∧ cs.length < 1000 ∧ DdV H v d ∧ d.fits ks ∧ 1 ≤ n ∧ n ≤ 30 ∧
  ∀ t m1 v' H', H t = none → (H m1 = none ∨ m1 = l1) → ButW x l2 H H' → H' t = some (.tup [.int n, .ref l1]) → Wl H' x C dx m1 l2 (d.n n : Nat) r g (d.ks ks) (cs ++ [.ref t]) → Ans H' v' d r g n ks → Q v' H'
theorem ok_law_do (T : Txt K mg) : FnOk P w K mg base CX0 9 T.a_law_do T.d_law_do ["one", "deed"] (spDo T.C_Wall) := by
  refine T.F_law_do.ok sc_law_do (fun vs H Q E h => ?_) (fun cdv A outer s H vs Q E hr h => ?_)
  · obtain ⟨x, dx, l1, l2, v, n, r, g, ks, cs, d, rfl, _⟩ := h; rfl
  · obtain ⟨x, dx, l1, l2, v, n, r, g, ks, cs, d, rfl, wl, lc, ⟨td, l, rfl, ed, el⟩, ft, n1, n2, q⟩ := h
    refine ⟨_, (pss_cons (ps_asg (pv 1) (pg_tup rfl (pgs_cons (pg_name (i := 2) sc_law_do.nd rfl (.inl rfl)) (pgs_cons (pg_name (i := 3) sc_law_do.nd rfl (.inl rfl)) pgs_nil))))
  (pss_cons (ps_if (pt_cmpR op_eq (pv 2) pe_str (nomark _))
  (pss_one (ps_ret (pe_call (ok_law_add T) hr (by rfl) T.g_law_add T.F_law_add.kp T.b_law_add .nil pass0 (pa_cons (pv 0) (pa_cons (pv 3) pa_nil)))))
  pss_nil)
  (pss_cons (ps_if (pt_cmpR op_eq (pv 2) pe_str (nomark _))
  (pss_one (ps_ret (pe_meth (pv 0) T.cl_Wall T.me_Wall_resize (ok_Wall_resize T) (hr.mono (by decide)) T.b_Wall_resize .nil pass0 (pa_cons (pe_ix ix_list (pv 3) pe_int (fun _ _ => rfl)) pa_nil))))
  pss_nil)
  (pss_cons (ps_if (pt_cmpR op_eq (pv 2) pe_str (nomark _))
  (pss_one (ps_ret (pe_meth (pv 0) T.cl_Wall T.me_Wall_put_in (ok_Wall_put_in T) (hr.mono (by decide)) T.b_Wall_put_in .nil pass0 (pa_cons (pe_ix ix_list (pv 3) pe_int (fun _ _ => rfl)) (pa_cons (pe_ix ix_list (pv 3) pe_int (fun _ _ => rfl)) pa_nil)))))
  pss_nil)
  (pss_cons (ps_if (pt_cmpR op_eq (pv 2) pe_str (nomark _))
  (pss_one (ps_ret (pe_meth (pv 0) T.cl_Wall T.me_Wall_shift (ok_Wall_shift T) (hr.mono (by decide)) T.b_Wall_shift .nil pass0 (pa_cons (pe_ix ix_list (pv 3) pe_int (fun _ _ => rfl)) (pa_cons (pe_ix ix_list (pv 3) pe_int (fun _ _ => rfl)) pa_nil)))))
  pss_nil)
  (pss_cons (ps_if (pt_cmpR op_eq (pv 2) pe_str (nomark _))
  (pss_one (ps_ret (pe_meth (pv 0) T.cl_Wall T.me_Wall_stretch (ok_Wall_stretch T) (hr.mono (by decide)) T.b_Wall_stretch .nil pass0 (pa_cons (pe_ix ix_list (pv 3) pe_int (fun _ _ => rfl)) (pa_cons (pe_ix ix_list (pv 3) pe_int (fun _ _ => rfl)) pa_nil)))))
  pss_nil)
  (pss_one (ps_ret (pe_meth (pv 0) T.cl_Wall T.me_Wall_take_out (ok_Wall_take_out T) (hr.mono (by decide)) T.b_Wall_take_out .nil pass0 (pa_cons (pe_ix ix_list (pv 3) pe_int (fun _ _ => rfl)) pa_nil)))))))))), ?_⟩
    refine ⟨.ref td, rfl, td, [_, _], rfl, SqT.of ed, rfl, _, [_], rfl, _, [], rfl, rfl, ?_⟩
    cases d with
    | add a =>
      refine ⟨_, rfl, rfl, _, rfl, ite_t keq ?_⟩
      exact ⟨.ref x, rfl, .ref l, rfl, x, dx, l1, l2, l, n, r, g, ks, a, cs, rfl, wl, lc, el, ft.1, ft.2.1, ft.2.2, n1, n2, fun c nc t m1 H' nt om bu et w' ec => q t m1 (.ref c) H' nt om bu et w' ⟨c, rfl, ec⟩⟩
    | rsz m =>
      refine ⟨_, rfl, rfl, _, rfl, ite_f (kne (show ("resize" : Str) ≠ _ by decide +kernel)) ?_⟩
      refine ⟨_, rfl, rfl, _, rfl, ite_t keq ?_⟩
      exact ⟨.ref x, rfl, x, dx, _, rfl, wl.ob, rfl, .ref l, rfl, l, _, _, .int m, rfl, rfl, SqL.of el, rfl, x, dx, l1, l2, n, r, g, ks, cs, m, rfl, wl, lc, by have := ft.1; omega, by have := ft.2; omega, fun t m1 H' nt om bu et w' => q t m1 .non H' nt om bu et w' rfl⟩
    | put i v =>
      refine ⟨_, rfl, rfl, _, rfl, ite_f (kne (show ("put" : Str) ≠ _ by decide +kernel)) ?_⟩
      refine ⟨_, rfl, rfl, _, rfl, ite_f (kne (show ("put" : Str) ≠ _ by decide +kernel)) ?_⟩
      refine ⟨_, rfl, rfl, _, rfl, ite_t keq ?_⟩
      exact ⟨.ref x, rfl, x, dx, _, rfl, wl.ob, rfl, .ref l, rfl, l, _, _, .int i, rfl, rfl, SqL.of el, rfl, .ref l, rfl, l, _, _, .int v, rfl, rfl, SqL.of el, rfl, x, dx, l1, l2, n, r, g, ks, cs, i, v, rfl, wl, lc, ft.1, ft.2.1, ft.2.2.1, ft.2.2.2, fun t m1 H' nt om bu et w' => q t m1 .non H' nt om bu et w' rfl⟩
    | shf i j =>
      have gv : ks[i]? = some (ks.getD i 0) := by rw [List.getD_eq_getElem?_getD, List.getElem?_eq_getElem ft.1]; rfl
      refine ⟨_, rfl, rfl, _, rfl, ite_f (kne (show ("shift" : Str) ≠ _ by decide +kernel)) ?_⟩
      refine ⟨_, rfl, rfl, _, rfl, ite_f (kne (show ("shift" : Str) ≠ _ by decide +kernel)) ?_⟩
      refine ⟨_, rfl, rfl, _, rfl, ite_f (kne (show ("shift" : Str) ≠ _ by decide +kernel)) ?_⟩
      refine ⟨_, rfl, rfl, _, rfl, ite_t keq ?_⟩
      exact ⟨.ref x, rfl, x, dx, _, rfl, wl.ob, rfl, .ref l, rfl, l, _, _, .int i, rfl, rfl, SqL.of el, rfl, .ref l, rfl, l, _, _, .int j, rfl, rfl, SqL.of el, rfl, x, dx, l1, l2, n, r, g, ks, cs, i, j, ks.getD i 0, rfl, wl, lc, gv, ft.2, fun t m1 H' nt om bu et w' => q t m1 .non H' nt om bu et w' rfl⟩
    | str i v =>
      refine ⟨_, rfl, rfl, _, rfl, ite_f (kne (show ("stretch" : Str) ≠ _ by decide +kernel)) ?_⟩
      refine ⟨_, rfl, rfl, _, rfl, ite_f (kne (show ("stretch" : Str) ≠ _ by decide +kernel)) ?_⟩
      refine ⟨_, rfl, rfl, _, rfl, ite_f (kne (show ("stretch" : Str) ≠ _ by decide +kernel)) ?_⟩
      refine ⟨_, rfl, rfl, _, rfl, ite_f (kne (show ("stretch" : Str) ≠ _ by decide +kernel)) ?_⟩
      refine ⟨_, rfl, rfl, _, rfl, ite_t keq ?_⟩
      exact ⟨.ref x, rfl, x, dx, _, rfl, wl.ob, rfl, .ref l, rfl, l, _, _, .int i, rfl, rfl, SqL.of el, rfl, .ref l, rfl, l, _, _, .int v, rfl, rfl, SqL.of el, rfl, x, dx, l1, l2, n, r, g, ks, cs, i, v, rfl, wl, lc, ft.1, ft.2.1, ft.2.2, fun t m1 H' nt om bu et w' => q t m1 .non H' nt om bu et w' rfl⟩
    | tak i =>
      refine ⟨_, rfl, rfl, _, rfl, ite_f (kne (show ("take" : Str) ≠ _ by decide +kernel)) ?_⟩
      refine ⟨_, rfl, rfl, _, rfl, ite_f (kne (show ("take" : Str) ≠ _ by decide +kernel)) ?_⟩
      refine ⟨_, rfl, rfl, _, rfl, ite_f (kne (show ("take" : Str) ≠ _ by decide +kernel)) ?_⟩
      refine ⟨_, rfl, rfl, _, rfl, ite_f (kne (show ("take" : Str) ≠ _ by decide +kernel)) ?_⟩
      refine ⟨_, rfl, rfl, _, rfl, ite_f (kne (show ("take" : Str) ≠ _ by decide +kernel)) ?_⟩
      exact ⟨.ref x, rfl, x, dx, _, rfl, wl.ob, rfl, .ref l, rfl, l, _, _, .int i, rfl, rfl, SqL.of el, rfl, x, dx, l1, l2, n, r, g, ks, cs, i, rfl, wl, lc, ft, fun t m1 H' nt om bu et w' => q t m1 .non H' nt om bu et w' rfl⟩

def spBoth (C : Addr) : Sp := fun vs H Q _ => ∃ (x dx l1 l2 t c : Addr) (v : V) (n : Nat) (r : Bool) (g : Int) (ks : List Int) (cs : List V) (d : Dd), vs = [.ref x, .ref t, v, .bl r, .int g] ∧ Wl H x C dx l1 l2 n r g ks cs ∧ cs.length < 1000 ∧ H t = some (.tup [.ref c, .int n]) ∧ H c = some (.lst (ks.map V.int)) ∧ c ≠ l2 ∧
  DdV H v d ∧ d.fits ks ∧ Hts ks ∧ 1 ≤ n ∧ n ≤ 30 ∧
  ∀ t' c' tt m1 H', (H m1 = none ∨ m1 = l1) → ButW x l2 H H' → H t' = none → (H c' = none ∨ c' = c) → H' t' = some (.tup [.ref c', .int (d.n n : Nat)]) → H' c' = some (.lst ((d.ks ks).map V.int)) → H tt = none → H' tt = some (.tup [.int n, .ref l1]) → Wl H' x C dx m1 l2 (d.n n : Nat) r g (d.ks ks) (cs ++ [.ref tt]) → Q (.ref t') H'
theorem ok_law_both (T : Txt K mg) : FnOk P w K mg base CX0 10 T.a_law_both T.d_law_both ["one", "state", "deed", "mirror", "free"] (spBoth T.C_Wall) := by
  refine T.F_law_both.ok sc_law_both (fun vs H Q E h => ?_) (fun cdv A outer s H vs Q E hr h => ?_)
  · obtain ⟨x, dx, l1, l2, t, c, v, n, r, g, ks, cs, d, rfl, _⟩ := h; rfl
  · obtain ⟨x, dx, l1, l2, t, c, v, n, r, g, ks, cs, d, rfl, wl, lc, et, ec, cl2, dv, ft, hk, n1, n2, q⟩ := h
    refine ⟨_, (pss_cons (ps_set (i := 5) sc_law_both.nd rfl (.inl rfl) (pe_call (ok_law_after T) (hr.mono (by decide)) (by rfl) T.g_law_after T.F_law_after.kp T.b_law_after .nil pass0 (pa_cons (pv 1) (pa_cons (pv 2) pa_nil))))
  (pss_cons (ps_set (i := 6) sc_law_both.nd rfl (.inl rfl) (pe_call (ok_law_due T) (hr.mono (by decide)) (by rfl) T.g_law_due T.F_law_due.kp T.b_law_due .nil pass0 (pa_cons (pv 5) (pa_cons (pv 3) (pa_cons (pv 4) pa_nil)))))
  (pss_cons (ps_set (i := 7) sc_law_both.nd rfl (.inl rfl) (pe_ifExp (pt_cmpR op_eq (pe_ix ix_tup (pv 2) pe_int (fun _ _ => rfl)) pe_str (nomark _)) (pe_slice sl_list (pe_ix ix_list (pv 6) pe_int (fun _ _ => rfl)) (po_some (pe_callB call_len_seq (by rfl) T.z_len (by decide +kernel) (pa_cons (pe_ix ix_tup (pv 1) pe_int (fun _ _ => rfl)) pa_nil))) po_none) pe_non))
  (pss_cons (ps_if (PW.pt (pw_or (pt_not (pt_val (pe_call (ok_law_same T) (hr.mono (by decide)) (by rfl) T.g_law_same T.F_law_same.kp T.b_law_same .nil pass0 (pa_cons (pe_call (ok_law_do T) hr (by rfl) T.g_law_do T.F_law_do.kp T.b_law_do .nil pass0 (pa_cons (pv 0) (pa_cons (pv 2) pa_nil))) (pa_cons (pv 7) pa_nil))))) (pw_or1 (pt_not (pt_val (pe_call (ok_law_same T) (hr.mono (by decide)) (by rfl) T.g_law_same T.F_law_same.kp T.b_law_same .nil pass0 (pa_cons (pe_call (ok_law_seen T) (hr.mono (by decide)) (by rfl) T.g_law_seen T.F_law_seen.kp T.b_law_seen .nil pass0 (pa_cons (pv 0) pa_nil)) (pa_cons (pv 6) pa_nil))))))))
  (pss_one (ps_ret pe_non))
  pss_nil)
  (pss_one (ps_ret (pv 5))))))), ?_⟩
    have few := wl.few
    have fk := (d.hts hk ft).2 few
    obtain ⟨m1', m2'⟩ := d.nn ft n1 n2
    refine ⟨.ref t, rfl, v, rfl, t, c, v, n, ks, d, rfl, et, ec, dv, ft, few, fun t' c' H1 s1 nt' oc' et' ec' => ?_⟩
    refine ⟨.ref t', rfl, .bl r, rfl, .int g, rfl, t', c', d.n n, r, g, d.ks ks, rfl, et', ec', by omega, m1', m2', fun H2 p f h b s2 np nf nh nb ep ef eh eb => ?_⟩
    have S2 := s1.trans s2
    have w2 := wl.same S2
    obtain ⟨td, l, rfl, ed, el⟩ := dv.same S2
    have notl : ∀ z, H1 z = none → z ≠ x ∧ z ≠ l2 := fun z nz => ⟨fun e => (by rw [e, s1 _ _ wl.ob] at nz; cases nz), fun e => (by rw [e, s1 _ _ wl.c2] at nz; cases nz)⟩
    have c'l : c' ≠ l2 := by
      rcases oc' with z | z
      · exact fun e => by rw [e, wl.c2] at z; cases z
      · rw [z]; exact cl2
    have c'x : c' ≠ x := fun e => by rw [e, s1 _ _ wl.ob] at ec'; cases ec'
    have t'l : t' ≠ l2 := fun e => by rw [e, wl.c2] at nt'; cases nt'
    have t'x : t' ≠ x := fun e => by rw [e, wl.ob] at nt'; cases nt'
    by_cases ha : ∃ a, d = .add a
    · obtain ⟨a, rfl⟩ := ha
      refine ⟨.ref td, rfl, td, _, _, .str "add", rfl, rfl, SqT.of ed, rfl, rfl, _, rfl, ite_t keq ?_⟩
      refine ⟨.ref p, rfl, p, _, _, .ref f, rfl, rfl, SqL.of ep, rfl, .ref t, rfl, t, _, _, .ref c, rfl, rfl, SqT.of (S2 _ _ et), rfl, c, _, rfl, .inl (SqL.of (S2 _ _ ec)), _, rfl, f, _, rfl, SqL.of ef, fun o no => ?_⟩
      rw [List.length_map, cutFrom]
      have s3 := same_new (H := H2) (p := o) (.lst (((colsV r g ((Dd.add a).n n) ((Dd.add a).ks ks)).drop ks.length).map V.int)) no
      have eo : (L2.upd H2 o (.lst (((colsV r g ((Dd.add a).n n) ((Dd.add a).ks ks)).drop ks.length).map V.int))) o = some (.lst (((colsV r g n (ks ++ a)).drop ks.length).map V.int)) := upd_same
      generalize L2.upd H2 o _ = H3 at s3 eo ⊢
      have no0 := notl o (s2.free no)
      refine ⟨.ref x, rfl, .ref td, rfl, x, dx, l1, l2, .ref td, n, r, g, ks, cs, .add a, rfl, w2.same s3, lc, ⟨td, l, rfl, s3 _ _ ed, s3 _ _ el⟩, ft, n1, n2, fun tt m1 v' H4 ntt om bu ett w4 an => ?_⟩
      obtain ⟨c4, rfl, e4⟩ := an
      refine ⟨.ref o, rfl, .ref c4, .ref o, rfl, .inr (.inl (rl_ints e4 (bu _ _ no0.1 no0.2 eo) (by rw [List.length_drop, colsV_len, List.length_append]; have := ft.2.2; omega))), fun H5 s5 => ⟨true, rfl, iteF ?_⟩⟩
      have w5 := w4.same s5
      have B5 : ∀ z o, z ≠ x → z ≠ l2 → H2 z = some o → H5 z = some o := fun z o h1 h2 e => s5 _ _ (bu _ _ h1 h2 (s3 _ _ e))
      refine ⟨.ref x, rfl, x, dx, m1, l2, _, r, g, _, _, rfl, w5, m1', m2', fun H6 p2 a2 f2 h2 b2 s6 np2 ep2 ea2 ef2 eh2 eb2 => ?_⟩
      have pz := notl p np
      have fz := notl f nf
      have hz := notl h nh
      have bz := notl b nb
      refine ⟨.ref p, rfl, .ref p2, .ref p, rfl, seen_due ep2 (s6 _ _ (B5 _ _ pz.1 pz.2 ep)) ea2 (s6 _ _ (B5 _ _ c'x c'l (s2 _ _ ec'))) ef2 (s6 _ _ (B5 _ _ fz.1 fz.2 ef)) eh2 (s6 _ _ (B5 _ _ hz.1 hz.2 eh)) eb2 (s6 _ _ (B5 _ _ bz.1 bz.2 eb)) (by omega) (by rw [colsV_len]; omega) (by rw [topsV_len]; omega) (by rw [bots_len]; omega), fun H7 s7 => ⟨true, rfl, iteF ?_⟩⟩
      have S7 := s6.trans s7
      refine ⟨.ref t', rfl, q t' c' tt m1 H7 (om.imp (fun z => S2.free (s3.free z)) id) (fun z o h1 h2 e => S7 _ _ (B5 _ _ h1 h2 (S2 _ _ e))) nt' oc' (S7 _ _ (B5 _ _ t'x t'l (s2 _ _ et'))) (S7 _ _ (B5 _ _ c'x c'l (s2 _ _ ec'))) ?_ (S7 _ _ (s5 _ _ ett)) (w5.same S7)⟩
      exact S2.free (s3.free ntt)
    · have hk2 : d.kind ≠ "add" := by
        cases d with
        | add a => exact absurd ⟨a, rfl⟩ ha
        | rsz _ => show ("resize" : Str) ≠ _; decide +kernel
        | put _ _ => show ("put" : Str) ≠ _; decide +kernel
        | shf _ _ => show ("shift" : Str) ≠ _; decide +kernel
        | str _ _ => show ("stretch" : Str) ≠ _; decide +kernel
        | tak _ => show ("take" : Str) ≠ _; decide +kernel
      refine ⟨.ref td, rfl, td, _, _, .str d.kind, rfl, rfl, SqT.of ed, rfl, rfl, _, rfl, ite_f (kne hk2) ?_⟩
      refine ⟨.ref x, rfl, .ref td, rfl, x, dx, l1, l2, .ref td, n, r, g, ks, cs, d, rfl, w2, lc, ⟨td, l, rfl, ed, el⟩, ft, n1, n2, fun tt m1 v' H4 ntt om bu ett w4 an => ?_⟩
      have vn : v' = .non := by
        cases d with
        | add a => exact absurd ⟨a, rfl⟩ ha
        | _ => exact an
      refine ⟨.non, rfl, v', .non, rfl, .inl ⟨vn, rfl⟩, fun H5 s5 => ⟨true, rfl, iteF ?_⟩⟩
      have w5 := w4.same s5
      have B5 : ∀ z o, z ≠ x → z ≠ l2 → H2 z = some o → H5 z = some o := fun z o h1 h2 e => s5 _ _ (bu _ _ h1 h2 (e))
      refine ⟨.ref x, rfl, x, dx, m1, l2, _, r, g, _, _, rfl, w5, m1', m2', fun H6 p2 a2 f2 h2 b2 s6 np2 ep2 ea2 ef2 eh2 eb2 => ?_⟩
      have pz := notl p np
      have fz := notl f nf
      have hz := notl h nh
      have bz := notl b nb
      refine ⟨.ref p, rfl, .ref p2, .ref p, rfl, seen_due ep2 (s6 _ _ (B5 _ _ pz.1 pz.2 ep)) ea2 (s6 _ _ (B5 _ _ c'x c'l (s2 _ _ ec'))) ef2 (s6 _ _ (B5 _ _ fz.1 fz.2 ef)) eh2 (s6 _ _ (B5 _ _ hz.1 hz.2 eh)) eb2 (s6 _ _ (B5 _ _ bz.1 bz.2 eb)) (by omega) (by rw [colsV_len]; omega) (by rw [topsV_len]; omega) (by rw [bots_len]; omega), fun H7 s7 => ⟨true, rfl, iteF ?_⟩⟩
      have S7 := s6.trans s7
      refine ⟨.ref t', rfl, q t' c' tt m1 H7 (om.imp (fun z => S2.free z) id) (fun z o h1 h2 e => S7 _ _ (B5 _ _ h1 h2 (S2 _ _ e))) nt' oc' (S7 _ _ (B5 _ _ t'x t'l (s2 _ _ et'))) (S7 _ _ (B5 _ _ c'x c'l (s2 _ _ ec'))) ?_ (S7 _ _ (s5 _ _ ett)) (w5.same S7)⟩
      exact S2.free ntt
end

section
variable {P : Program} {w : World} {K : PySem.W.Frag} {mg : Str → Option Value} {base : Heap}
theorem nil_eqv {ks : List Int} : PyData.eqv (.list (ks.map PyData.int)) (.list []) = decide (ks = []) := by cases ks <;> rfl
def spDeed : Sp := fun vs H Q _ => ∃ (a t c : Addr) (m : Int) (n : Nat) (ks : List Int), vs = [.ref a, .ref t] ∧ Src H a m ∧ m ≤ 90000 ∧ H t = some (.tup [.ref c, .int n]) ∧ H c = some (.lst (ks.map V.int)) ∧ a ≠ c ∧ ks.length ≤ 200 ∧ 1 ≤ n ∧ n ≤ 30 ∧
  ∀ (v : V) (d : Dd) (H' : Hp), But a H H' → Src H' a (m + 6) → (∃ t' l', v = .ref t' ∧ H' t' = some (.tup [.str d.kind, .ref l']) ∧ H' l' = some (.lst (d.args.map V.int)) ∧ l' ≠ a) → d.fits ks → Q v H'
set_option maxHeartbeats 2000000 in
theorem ok_law_deed (T : Txt K mg) : FnOk P w K mg base CX0 3 T.a_law_deed T.d_law_deed ["source", "state"] spDeed := by
  refine T.F_law_deed.ok sc_law_deed (fun vs H Q E h => ?_) (fun cdv A outer s H vs Q E hr h => ?_)
  · obtain ⟨a, t, c, m, n, ks, rfl, _⟩ := h; rfl
  · obtain ⟨a, t, c, m, n, ks, rfl, sr, hm, et, ec, nac, lk, n1, n2, q⟩ := h
    refine ⟨_, (pss_cons (ps_asg (pv 1) (pg_tup rfl (pgs_cons (pg_name (i := 2) sc_law_deed.nd rfl (.inl rfl)) (pgs_cons (pg_name (i := 3) sc_law_deed.nd rfl (.inl rfl)) pgs_nil))))
  (pss_cons (ps_par (i := 4) (j := 5) rfl sc_law_deed.nd rfl rfl (by decide) rfl rfl (pa_cons (pe_callB call_len_seq (by rfl) T.z_len (by decide +kernel) (pa_cons (pv 2) pa_nil)) (pa_cons (pe_call (ok_law_draw T) (hr.mono (by decide)) (by rfl) T.g_law_draw T.F_law_draw.kp T.b_law_draw .nil pass0 (pa_cons (pv 0) (pa_cons pe_int pa_nil))) pa_nil)) (by rfl))
  (pss_cons (ps_if (PW.pt (pw_or (PW.pt (pw_and (pt_cmpR op_lt (pv 5) pe_int (nomark _)) (pw_and1 (pt_cmpR op_lt (pv 4) pe_int (nomark _))))) (pw_or1 (pt_cmpR (op_eqD hr.units) (pv 2) (pe_lst pa_nil) (nomark _)))))
  (pss_one (ps_ret (pe_tup (pa_cons pe_str (pa_cons (pe_call (ok_law_cards T) hr (by rfl) T.g_law_cards T.F_law_cards.kp T.b_law_cards .nil pass0 (pa_cons (pv 0) (pa_cons (pe_call (ok_law_draw T) (hr.mono (by decide)) (by rfl) T.g_law_draw T.F_law_draw.kp T.b_law_draw .nil pass0 (pa_cons (pv 0) (pa_cons pe_int pa_nil))) pa_nil))) pa_nil)))))
  pss_nil)
  (pss_cons (ps_if (pt_cmpR op_eq (pv 5) pe_int (nomark _))
  (pss_one (ps_ret (pe_tup (pa_cons pe_str (pa_cons (pe_lst (pa_cons (pe_ix ix_list (pe_lst (pa_cons (pe_op op_add pe_int (pe_call (ok_law_draw T) (hr.mono (by decide)) (by rfl) T.g_law_draw T.F_law_draw.kp T.b_law_draw .nil pass0 (pa_cons (pv 0) (pa_cons pe_int pa_nil)))) (pa_cons (pe_op op_add pe_int (pe_call (ok_law_draw T) (hr.mono (by decide)) (by rfl) T.g_law_draw T.F_law_draw.kp T.b_law_draw .nil pass0 (pa_cons (pv 0) (pa_cons pe_int pa_nil)))) (pa_cons (pv 3) pa_nil)))) (pe_call (ok_law_draw T) (hr.mono (by decide)) (by rfl) T.g_law_draw T.F_law_draw.kp T.b_law_draw .nil pass0 (pa_cons (pv 0) (pa_cons pe_int pa_nil))) (fun _ _ => rfl)) pa_nil)) pa_nil)))))
  pss_nil)
  (pss_cons (ps_if (PW.pt (pw_and (pt_cmpR op_eq (pv 5) pe_int (nomark _)) (pw_and1 (pt_cmpR op_lt (pv 4) pe_int (nomark _)))))
  (pss_one (ps_ret (pe_tup (pa_cons pe_str (pa_cons (pe_lst (pa_cons (pe_call (ok_law_draw T) (hr.mono (by decide)) (by rfl) T.g_law_draw T.F_law_draw.kp T.b_law_draw .nil pass0 (pa_cons (pv 0) (pa_cons (pe_op op_add (pv 4) pe_int) pa_nil))) (pa_cons (pe_ix ix_list (pe_call (ok_law_cards T) hr (by rfl) T.g_law_cards T.F_law_cards.kp T.b_law_cards .nil pass0 (pa_cons (pv 0) (pa_cons pe_int pa_nil))) pe_int (fun _ _ => rfl)) pa_nil))) pa_nil)))))
  pss_nil)
  (pss_cons (ps_if (pt_cmpR op_eq (pv 5) pe_int (nomark _))
  (pss_one (ps_ret (pe_tup (pa_cons pe_str (pa_cons (pe_lst (pa_cons (pe_call (ok_law_draw T) (hr.mono (by decide)) (by rfl) T.g_law_draw T.F_law_draw.kp T.b_law_draw .nil pass0 (pa_cons (pv 0) (pa_cons (pv 4) pa_nil))) (pa_cons (pe_call (ok_law_draw T) (hr.mono (by decide)) (by rfl) T.g_law_draw T.F_law_draw.kp T.b_law_draw .nil pass0 (pa_cons (pv 0) (pa_cons (pv 4) pa_nil))) pa_nil))) pa_nil)))))
  pss_nil)
  (pss_cons (ps_if (pt_cmpR op_eq (pv 5) pe_int (nomark _))
  (pss_one (ps_ret (pe_tup (pa_cons pe_str (pa_cons (pe_lst (pa_cons (pe_call (ok_law_draw T) (hr.mono (by decide)) (by rfl) T.g_law_draw T.F_law_draw.kp T.b_law_draw .nil pass0 (pa_cons (pv 0) (pa_cons (pv 4) pa_nil))) (pa_cons (pe_ix ix_list (pe_call (ok_law_cards T) hr (by rfl) T.g_law_cards T.F_law_cards.kp T.b_law_cards .nil pass0 (pa_cons (pv 0) (pa_cons pe_int pa_nil))) pe_int (fun _ _ => rfl)) pa_nil))) pa_nil)))))
  pss_nil)
  (pss_one (ps_ret (pe_tup (pa_cons pe_str (pa_cons (pe_lst (pa_cons (pe_call (ok_law_draw T) (hr.mono (by decide)) (by rfl) T.g_law_draw T.F_law_draw.kp T.b_law_draw .nil pass0 (pa_cons (pv 0) (pa_cons (pv 4) pa_nil))) pa_nil)) pa_nil)))))))))))), ?_⟩
    have fin : ∀ (d : Dd) (L : Addr) (H3 : Hp) (k : Int), But a H H3 → Src H3 a k → k ≤ m + 6 → H3 L = some (.lst (d.args.map V.int)) → L ≠ a → d.fits ks → ([V.str d.kind, V.ref L].length ≤ sizeLine ∧ ∀ p, H3 p = none → Q (.ref p) (L2.upd H3 p (.tup [.str d.kind, .ref L]))) := fun d L H3 k b3 s3 hk e3 nLa ft => by
      refine ⟨(by show 2 ≤ sizeLine; decide), fun p np => ?_⟩
      have s4 := same_new (H := H3) (p := p) (.tup [.str d.kind, .ref L]) np
      exact q _ d _ (fun z o h e => s4 _ _ (b3 _ _ h e)) ((s3.same s4).mono hk) ⟨p, L, rfl, upd_same, s4 _ _ e3, nLa⟩ ft
    refine ⟨.ref t, rfl, t, [_, _], rfl, SqT.of et, rfl, _, [_], rfl, _, [], rfl, rfl, ?_⟩
    refine ⟨.ref c, rfl, c, _, rfl, .inl (SqL.of ec), .ref a, rfl, a, 8, m, rfl, sr, by omega, by decide, by decide, fun r H1 b1 sr1 r0 r1 => ?_⟩
    rw [List.length_map]
    have ec1 := b1 _ _ (Ne.symm nac) ec
    refine ⟨_, _, rfl, _, rfl, r, 3, rfl, rfl, _, rfl, ite2 (fun h1 => ?_) (fun h1 => ?_)⟩
    · refine ⟨_, rfl, _, 198, rfl, rfl, _, rfl, ite2 (fun h2 => ?_) (fun h2 => ?_)⟩
      · have h2 := of_decide_eq_true h2
        refine ⟨.ref a, rfl, .ref a, rfl, a, 4, m + 1, rfl, sr1, by omega, by decide, by decide, fun x Ha ba sa x0 x1 => ?_⟩
        obtain ⟨j, rfl⟩ := Int.eq_ofNat_of_zero_le x0
        refine ⟨a, m + 1 + 1, j, rfl, sa, by omega, by omega, fun L Hb bs bb sb nL eL hl hb => ?_⟩
        exact fin (.add bs) L Hb _ (fun z o h e => bb _ _ h (ba _ _ h (b1 _ _ h e))) sb (by omega) eL (sa.ne nL) ⟨by omega, hb, by omega⟩
      · refine ⟨.ref c, rfl, Nat.zero_le _, fun e ne => ⟨_, _, .lst (SqL.of (same_new _ ne _ _ ec1)) (dpInts ks), .lst (SqL.of upd_same) .nil, shapedInts ks, rfl, _, rfl, ?_⟩⟩
        have se := same_new (H := H1) (p := e) (.lst []) ne
        rw [nil_eqv]
        have be : But a H (L2.upd H1 e (.lst [])) := fun z o h q => se _ _ (b1 _ _ h q)
        have sre := sr1.same se
        generalize L2.upd H1 e _ = He at se be sre ⊢
        by_cases hk0 : ks = []
        · rw [decide_eq_true hk0]
          refine iteT ?_
          refine ⟨.ref a, rfl, .ref a, rfl, a, 4, m + 1, rfl, sre, by omega, by decide, by decide, fun x Ha ba sa x0 x1 => ?_⟩
          obtain ⟨j, rfl⟩ := Int.eq_ofNat_of_zero_le x0
          refine ⟨a, m + 1 + 1, j, rfl, sa, by omega, by omega, fun L Hb bs bb sb nL eL hl hb => ?_⟩
          exact fin (.add bs) L Hb _ (fun z o h e => bb _ _ h (ba _ _ h (be _ _ h e))) sb (by omega) eL (sa.ne nL) ⟨by omega, hb, by rw [hk0]; simp only [List.length_nil]; omega⟩
        · rw [decide_eq_false hk0]
          refine iteF ?_
          have kpos : 1 ≤ ks.length := by
            rcases ks with _ | ⟨k0, kr⟩
            · exact absurd rfl hk0
            · simp
          refine ⟨_, rfl, rfl, _, rfl, ite2 (fun h7 => ?_) (fun h7 => ?_)⟩
          · refine ⟨.ref a, rfl, a, 30, m + 1, rfl, sre, by omega, by decide, by decide, fun x Ha ba sa x0 x1 => ?_⟩
            refine ⟨1, x, rfl, rfl, .ref a, rfl, a, 4, m + 1 + 1, rfl, sa, by omega, by decide, by decide, fun y Hb bb sb y0 y1 => ?_⟩
            refine ⟨1, y, rfl, rfl, .int n, rfl, (by show 3 ≤ sizeLine; decide), fun o no => ?_⟩
            have s3 := same_new (H := Hb) (p := o) (.lst [.int (1 + x), .int (1 + y), .int n]) no
            have eo : (L2.upd Hb o (.lst [.int (1 + x), .int (1 + y), .int n])) o = some (.lst [.int (1 + x), .int (1 + y), .int n]) := upd_same
            have oa := sb.ne no
            generalize L2.upd Hb o _ = Hc at s3 eo ⊢
            refine ⟨.ref a, rfl, a, 3, m + 1 + 1 + 1, rfl, sb.same s3, by omega, by decide, by decide, fun z Hd bd sd z0 z1 => ?_⟩
            obtain ⟨j, rfl⟩ := Int.eq_ofNat_of_zero_le z0
            obtain ⟨u, eu, u1, u2⟩ : ∃ u : Nat, ([V.int (1 + x), V.int (1 + y), V.int n])[j]? = some (.int u) ∧ 1 ≤ u ∧ u ≤ 30 := by
              have : j = 0 ∨ j = 1 ∨ j = 2 := by omega
              rcases this with rfl | rfl | rfl
              · exact ⟨(1 + x).toNat, by rw [Int.toNat_of_nonneg (by omega)]; rfl, by omega, by omega⟩
              · exact ⟨(1 + y).toNat, by rw [Int.toNat_of_nonneg (by omega)]; rfl, by omega, by omega⟩
              · exact ⟨n, rfl, n1, n2⟩
            refine ⟨o, _, _, .int u, rfl, rfl, SqL.of (bd _ _ oa eo), atI_nat eu, (by show 1 ≤ sizeLine; decide), fun L nL => ?_⟩
            have s5 := same_new (H := Hd) (p := L) (.lst [.int u]) nL
            exact fin (.rsz u) L _ _ (fun z o h e => s5 _ _ (bd _ _ h (s3 _ _ (bb _ _ h (ba _ _ h (be _ _ h e)))))) (sd.same s5) (by omega) upd_same (sd.ne nL) ⟨u1, u2⟩
          refine ⟨_, rfl, rfl, _, rfl, ?_⟩
          have putK : r = 3 → ks.length < 200 → ∀ (G : Prop), True := fun _ _ _ => trivial
          refine ite2 (fun h3 => ?_) (fun h3 => ?_)
          · refine ⟨_, rfl, _, 200, rfl, rfl, _, rfl, ite2 (fun h4 => ?_) (fun h4 => ?_)⟩
            · have h4 := of_decide_eq_true h4
              refine ⟨.ref a, rfl, _, rfl, _, 1, rfl, rfl, a, _, m + 1, rfl, sre, by omega, by omega, by omega, fun x Ha ba sa x0 x1 => ?_⟩
              obtain ⟨j, rfl⟩ := Int.eq_ofNat_of_zero_le x0
              refine ⟨.ref a, rfl, a, m + 1 + 1, 1, rfl, sa, by omega, by omega, fun L Hb bs bb sb nL eL hl hb => ?_⟩
              obtain ⟨hh, rfl⟩ : ∃ hh, bs = [hh] := by
                rcases bs with _ | ⟨hh, _ | ⟨_, _⟩⟩
                · cases hl
                · exact ⟨hh, rfl⟩
                · simp at hl
              refine ⟨L, _, _, .int hh, rfl, rfl, SqL.of eL, rfl, (by show 2 ≤ sizeLine; decide), fun L2' nL2 => ?_⟩
              have s5 := same_new (H := Hb) (p := L2') (.lst [.int j, .int hh]) nL2
              exact fin (.put j hh) L2' _ _ (fun z o h e => s5 _ _ (bb _ _ h (ba _ _ h (be _ _ h e)))) (sb.same s5) (by omega) upd_same (sb.ne nL2) ⟨by omega, (hb hh (List.mem_singleton.mpr rfl)).1, (hb hh (List.mem_singleton.mpr rfl)).2, by omega⟩
            · refine ⟨_, rfl, rfl, _, rfl, ite2 (fun h5 => ?_) (fun h5 => ?_)⟩
              · refine ⟨.ref a, rfl, _, rfl, a, _, m + 1, rfl, sre, by omega, by omega, by omega, fun x Ha ba sa x0 x1 => ?_⟩
                obtain ⟨j, rfl⟩ := Int.eq_ofNat_of_zero_le x0
                refine ⟨.ref a, rfl, _, rfl, a, _, m + 1 + 1, rfl, sa, by omega, by omega, by omega, fun y Hb bb sb y0 y1 => ?_⟩
                obtain ⟨j2, rfl⟩ := Int.eq_ofNat_of_zero_le y0
                refine ⟨(by show 2 ≤ sizeLine; decide), fun L nL => ?_⟩
                have s5 := same_new (H := Hb) (p := L) (.lst [.int j, .int j2]) nL
                exact fin (.shf j j2) L _ _ (fun z o h e => s5 _ _ (bb _ _ h (ba _ _ h (be _ _ h e)))) (sb.same s5) (by omega) upd_same (sb.ne nL) ⟨by omega, by omega⟩
              refine ⟨_, rfl, rfl, _, rfl, ite2 (fun h6 => ?_) (fun h6 => ?_)⟩
              · refine ⟨.ref a, rfl, _, rfl, a, _, m + 1, rfl, sre, by omega, by omega, by omega, fun x Ha ba sa x0 x1 => ?_⟩
                obtain ⟨j, rfl⟩ := Int.eq_ofNat_of_zero_le x0
                refine ⟨.ref a, rfl, a, m + 1 + 1, 1, rfl, sa, by omega, by omega, fun L Hb bs bb sb nL eL hl hb => ?_⟩
                obtain ⟨hh, rfl⟩ : ∃ hh, bs = [hh] := by
                  rcases bs with _ | ⟨hh, _ | ⟨_, _⟩⟩
                  · cases hl
                  · exact ⟨hh, rfl⟩
                  · simp at hl
                refine ⟨L, _, _, .int hh, rfl, rfl, SqL.of eL, rfl, (by show 2 ≤ sizeLine; decide), fun L2' nL2 => ?_⟩
                have s5 := same_new (H := Hb) (p := L2') (.lst [.int j, .int hh]) nL2
                exact fin (.str j hh) L2' _ _ (fun z o h e => s5 _ _ (bb _ _ h (ba _ _ h (be _ _ h e)))) (sb.same s5) (by omega) upd_same (sb.ne nL2) ⟨by omega, (hb hh (List.mem_singleton.mpr rfl)).1, (hb hh (List.mem_singleton.mpr rfl)).2⟩
              refine ⟨.ref a, rfl, _, rfl, a, _, m + 1, rfl, sre, by omega, by omega, by omega, fun x Ha ba sa x0 x1 => ?_⟩
              obtain ⟨j, rfl⟩ := Int.eq_ofNat_of_zero_le x0
              refine ⟨(by show 1 ≤ sizeLine; decide), fun L nL => ?_⟩
              have s5 := same_new (H := Ha) (p := L) (.lst [.int j]) nL
              exact fin (.tak j) L _ _ (fun z o h e => s5 _ _ (ba _ _ h (be _ _ h e))) (sa.same s5) (by omega) upd_same (sa.ne nL) (by show j < ks.length; omega)
          · refine iteF ?_
            refine ⟨_, rfl, rfl, _, rfl, ite2 (fun h5 => ?_) (fun h5 => ?_)⟩
            · refine ⟨.ref a, rfl, _, rfl, a, _, m + 1, rfl, sre, by omega, by omega, by omega, fun x Ha ba sa x0 x1 => ?_⟩
              obtain ⟨j, rfl⟩ := Int.eq_ofNat_of_zero_le x0
              refine ⟨.ref a, rfl, _, rfl, a, _, m + 1 + 1, rfl, sa, by omega, by omega, by omega, fun y Hb bb sb y0 y1 => ?_⟩
              obtain ⟨j2, rfl⟩ := Int.eq_ofNat_of_zero_le y0
              refine ⟨(by show 2 ≤ sizeLine; decide), fun L nL => ?_⟩
              have s5 := same_new (H := Hb) (p := L) (.lst [.int j, .int j2]) nL
              exact fin (.shf j j2) L _ _ (fun z o h e => s5 _ _ (bb _ _ h (ba _ _ h (be _ _ h e)))) (sb.same s5) (by omega) upd_same (sb.ne nL) ⟨by omega, by omega⟩
            refine ⟨_, rfl, rfl, _, rfl, ite2 (fun h6 => ?_) (fun h6 => ?_)⟩
            · refine ⟨.ref a, rfl, _, rfl, a, _, m + 1, rfl, sre, by omega, by omega, by omega, fun x Ha ba sa x0 x1 => ?_⟩
              obtain ⟨j, rfl⟩ := Int.eq_ofNat_of_zero_le x0
              refine ⟨.ref a, rfl, a, m + 1 + 1, 1, rfl, sa, by omega, by omega, fun L Hb bs bb sb nL eL hl hb => ?_⟩
              obtain ⟨hh, rfl⟩ : ∃ hh, bs = [hh] := by
                rcases bs with _ | ⟨hh, _ | ⟨_, _⟩⟩
                · cases hl
                · exact ⟨hh, rfl⟩
                · simp at hl
              refine ⟨L, _, _, .int hh, rfl, rfl, SqL.of eL, rfl, (by show 2 ≤ sizeLine; decide), fun L2' nL2 => ?_⟩
              have s5 := same_new (H := Hb) (p := L2') (.lst [.int j, .int hh]) nL2
              exact fin (.str j hh) L2' _ _ (fun z o h e => s5 _ _ (bb _ _ h (ba _ _ h (be _ _ h e)))) (sb.same s5) (by omega) upd_same (sb.ne nL2) ⟨by omega, (hb hh (List.mem_singleton.mpr rfl)).1, (hb hh (List.mem_singleton.mpr rfl)).2⟩
            refine ⟨.ref a, rfl, _, rfl, a, _, m + 1, rfl, sre, by omega, by omega, by omega, fun x Ha ba sa x0 x1 => ?_⟩
            obtain ⟨j, rfl⟩ := Int.eq_ofNat_of_zero_le x0
            refine ⟨(by show 1 ≤ sizeLine; decide), fun L nL => ?_⟩
            have s5 := same_new (H := Ha) (p := L) (.lst [.int j]) nL
            exact fin (.tak j) L _ _ (fun z o h e => s5 _ _ (ba _ _ h (be _ _ h e))) (sa.same s5) (by omega) upd_same (sa.ne nL) (by show j < ks.length; omega)
    · refine iteF ⟨.ref c, rfl, Nat.zero_le _, fun e ne => ⟨_, _, .lst (SqL.of (same_new _ ne _ _ ec1)) (dpInts ks), .lst (SqL.of upd_same) .nil, shapedInts ks, rfl, _, rfl, ?_⟩⟩
      have se := same_new (H := H1) (p := e) (.lst []) ne
      rw [nil_eqv]
      have be : But a H (L2.upd H1 e (.lst [])) := fun z o h q => se _ _ (b1 _ _ h q)
      have sre := sr1.same se
      generalize L2.upd H1 e _ = He at se be sre ⊢
      by_cases hk0 : ks = []
      · rw [decide_eq_true hk0]
        refine iteT ?_
        refine ⟨.ref a, rfl, .ref a, rfl, a, 4, m + 1, rfl, sre, by omega, by decide, by decide, fun x Ha ba sa x0 x1 => ?_⟩
        obtain ⟨j, rfl⟩ := Int.eq_ofNat_of_zero_le x0
        refine ⟨a, m + 1 + 1, j, rfl, sa, by omega, by omega, fun L Hb bs bb sb nL eL hl hb => ?_⟩
        exact fin (.add bs) L Hb _ (fun z o h e => bb _ _ h (ba _ _ h (be _ _ h e))) sb (by omega) eL (sa.ne nL) ⟨by omega, hb, by rw [hk0]; simp only [List.length_nil]; omega⟩
      · rw [decide_eq_false hk0]
        refine iteF ?_
        have kpos : 1 ≤ ks.length := by
          rcases ks with _ | ⟨k0, kr⟩
          · exact absurd rfl hk0
          · simp
        refine ⟨_, rfl, rfl, _, rfl, ite2 (fun h7 => ?_) (fun h7 => ?_)⟩
        · refine ⟨.ref a, rfl, a, 30, m + 1, rfl, sre, by omega, by decide, by decide, fun x Ha ba sa x0 x1 => ?_⟩
          refine ⟨1, x, rfl, rfl, .ref a, rfl, a, 4, m + 1 + 1, rfl, sa, by omega, by decide, by decide, fun y Hb bb sb y0 y1 => ?_⟩
          refine ⟨1, y, rfl, rfl, .int n, rfl, (by show 3 ≤ sizeLine; decide), fun o no => ?_⟩
          have s3 := same_new (H := Hb) (p := o) (.lst [.int (1 + x), .int (1 + y), .int n]) no
          have eo : (L2.upd Hb o (.lst [.int (1 + x), .int (1 + y), .int n])) o = some (.lst [.int (1 + x), .int (1 + y), .int n]) := upd_same
          have oa := sb.ne no
          generalize L2.upd Hb o _ = Hc at s3 eo ⊢
          refine ⟨.ref a, rfl, a, 3, m + 1 + 1 + 1, rfl, sb.same s3, by omega, by decide, by decide, fun z Hd bd sd z0 z1 => ?_⟩
          obtain ⟨j, rfl⟩ := Int.eq_ofNat_of_zero_le z0
          obtain ⟨u, eu, u1, u2⟩ : ∃ u : Nat, ([V.int (1 + x), V.int (1 + y), V.int n])[j]? = some (.int u) ∧ 1 ≤ u ∧ u ≤ 30 := by
            have : j = 0 ∨ j = 1 ∨ j = 2 := by omega
            rcases this with rfl | rfl | rfl
            · exact ⟨(1 + x).toNat, by rw [Int.toNat_of_nonneg (by omega)]; rfl, by omega, by omega⟩
            · exact ⟨(1 + y).toNat, by rw [Int.toNat_of_nonneg (by omega)]; rfl, by omega, by omega⟩
            · exact ⟨n, rfl, n1, n2⟩
          refine ⟨o, _, _, .int u, rfl, rfl, SqL.of (bd _ _ oa eo), atI_nat eu, (by show 1 ≤ sizeLine; decide), fun L nL => ?_⟩
          have s5 := same_new (H := Hd) (p := L) (.lst [.int u]) nL
          exact fin (.rsz u) L _ _ (fun z o h e => s5 _ _ (bd _ _ h (s3 _ _ (bb _ _ h (ba _ _ h (be _ _ h e)))))) (sd.same s5) (by omega) upd_same (sd.ne nL) ⟨u1, u2⟩
        refine ⟨_, rfl, rfl, _, rfl, ?_⟩
        have putK : r = 3 → ks.length < 200 → ∀ (G : Prop), True := fun _ _ _ => trivial
        refine ite2 (fun h3 => ?_) (fun h3 => ?_)
        · refine ⟨_, rfl, _, 200, rfl, rfl, _, rfl, ite2 (fun h4 => ?_) (fun h4 => ?_)⟩
          · have h4 := of_decide_eq_true h4
            refine ⟨.ref a, rfl, _, rfl, _, 1, rfl, rfl, a, _, m + 1, rfl, sre, by omega, by omega, by omega, fun x Ha ba sa x0 x1 => ?_⟩
            obtain ⟨j, rfl⟩ := Int.eq_ofNat_of_zero_le x0
            refine ⟨.ref a, rfl, a, m + 1 + 1, 1, rfl, sa, by omega, by omega, fun L Hb bs bb sb nL eL hl hb => ?_⟩
            obtain ⟨hh, rfl⟩ : ∃ hh, bs = [hh] := by
              rcases bs with _ | ⟨hh, _ | ⟨_, _⟩⟩
              · cases hl
              · exact ⟨hh, rfl⟩
              · simp at hl
            refine ⟨L, _, _, .int hh, rfl, rfl, SqL.of eL, rfl, (by show 2 ≤ sizeLine; decide), fun L2' nL2 => ?_⟩
            have s5 := same_new (H := Hb) (p := L2') (.lst [.int j, .int hh]) nL2
            exact fin (.put j hh) L2' _ _ (fun z o h e => s5 _ _ (bb _ _ h (ba _ _ h (be _ _ h e)))) (sb.same s5) (by omega) upd_same (sb.ne nL2) ⟨by omega, (hb hh (List.mem_singleton.mpr rfl)).1, (hb hh (List.mem_singleton.mpr rfl)).2, by omega⟩
          · refine ⟨_, rfl, rfl, _, rfl, ite2 (fun h5 => ?_) (fun h5 => ?_)⟩
            · refine ⟨.ref a, rfl, _, rfl, a, _, m + 1, rfl, sre, by omega, by omega, by omega, fun x Ha ba sa x0 x1 => ?_⟩
              obtain ⟨j, rfl⟩ := Int.eq_ofNat_of_zero_le x0
              refine ⟨.ref a, rfl, _, rfl, a, _, m + 1 + 1, rfl, sa, by omega, by omega, by omega, fun y Hb bb sb y0 y1 => ?_⟩
              obtain ⟨j2, rfl⟩ := Int.eq_ofNat_of_zero_le y0
              refine ⟨(by show 2 ≤ sizeLine; decide), fun L nL => ?_⟩
              have s5 := same_new (H := Hb) (p := L) (.lst [.int j, .int j2]) nL
              exact fin (.shf j j2) L _ _ (fun z o h e => s5 _ _ (bb _ _ h (ba _ _ h (be _ _ h e)))) (sb.same s5) (by omega) upd_same (sb.ne nL) ⟨by omega, by omega⟩
            refine ⟨_, rfl, rfl, _, rfl, ite2 (fun h6 => ?_) (fun h6 => ?_)⟩
            · refine ⟨.ref a, rfl, _, rfl, a, _, m + 1, rfl, sre, by omega, by omega, by omega, fun x Ha ba sa x0 x1 => ?_⟩
              obtain ⟨j, rfl⟩ := Int.eq_ofNat_of_zero_le x0
              refine ⟨.ref a, rfl, a, m + 1 + 1, 1, rfl, sa, by omega, by omega, fun L Hb bs bb sb nL eL hl hb => ?_⟩
              obtain ⟨hh, rfl⟩ : ∃ hh, bs = [hh] := by
                rcases bs with _ | ⟨hh, _ | ⟨_, _⟩⟩
                · cases hl
                · exact ⟨hh, rfl⟩
                · simp at hl
              refine ⟨L, _, _, .int hh, rfl, rfl, SqL.of eL, rfl, (by show 2 ≤ sizeLine; decide), fun L2' nL2 => ?_⟩
              have s5 := same_new (H := Hb) (p := L2') (.lst [.int j, .int hh]) nL2
              exact fin (.str j hh) L2' _ _ (fun z o h e => s5 _ _ (bb _ _ h (ba _ _ h (be _ _ h e)))) (sb.same s5) (by omega) upd_same (sb.ne nL2) ⟨by omega, (hb hh (List.mem_singleton.mpr rfl)).1, (hb hh (List.mem_singleton.mpr rfl)).2⟩
            refine ⟨.ref a, rfl, _, rfl, a, _, m + 1, rfl, sre, by omega, by omega, by omega, fun x Ha ba sa x0 x1 => ?_⟩
            obtain ⟨j, rfl⟩ := Int.eq_ofNat_of_zero_le x0
            refine ⟨(by show 1 ≤ sizeLine; decide), fun L nL => ?_⟩
            have s5 := same_new (H := Ha) (p := L) (.lst [.int j]) nL
            exact fin (.tak j) L _ _ (fun z o h e => s5 _ _ (ba _ _ h (be _ _ h e))) (sa.same s5) (by omega) upd_same (sa.ne nL) (by show j < ks.length; omega)
        · refine iteF ?_
          refine ⟨_, rfl, rfl, _, rfl, ite2 (fun h5 => ?_) (fun h5 => ?_)⟩
          · refine ⟨.ref a, rfl, _, rfl, a, _, m + 1, rfl, sre, by omega, by omega, by omega, fun x Ha ba sa x0 x1 => ?_⟩
            obtain ⟨j, rfl⟩ := Int.eq_ofNat_of_zero_le x0
            refine ⟨.ref a, rfl, _, rfl, a, _, m + 1 + 1, rfl, sa, by omega, by omega, by omega, fun y Hb bb sb y0 y1 => ?_⟩
            obtain ⟨j2, rfl⟩ := Int.eq_ofNat_of_zero_le y0
            refine ⟨(by show 2 ≤ sizeLine; decide), fun L nL => ?_⟩
            have s5 := same_new (H := Hb) (p := L) (.lst [.int j, .int j2]) nL
            exact fin (.shf j j2) L _ _ (fun z o h e => s5 _ _ (bb _ _ h (ba _ _ h (be _ _ h e)))) (sb.same s5) (by omega) upd_same (sb.ne nL) ⟨by omega, by omega⟩
          refine ⟨_, rfl, rfl, _, rfl, ite2 (fun h6 => ?_) (fun h6 => ?_)⟩
          · refine ⟨.ref a, rfl, _, rfl, a, _, m + 1, rfl, sre, by omega, by omega, by omega, fun x Ha ba sa x0 x1 => ?_⟩
            obtain ⟨j, rfl⟩ := Int.eq_ofNat_of_zero_le x0
            refine ⟨.ref a, rfl, a, m + 1 + 1, 1, rfl, sa, by omega, by omega, fun L Hb bs bb sb nL eL hl hb => ?_⟩
            obtain ⟨hh, rfl⟩ : ∃ hh, bs = [hh] := by
              rcases bs with _ | ⟨hh, _ | ⟨_, _⟩⟩
              · cases hl
              · exact ⟨hh, rfl⟩
              · simp at hl
            refine ⟨L, _, _, .int hh, rfl, rfl, SqL.of eL, rfl, (by show 2 ≤ sizeLine; decide), fun L2' nL2 => ?_⟩
            have s5 := same_new (H := Hb) (p := L2') (.lst [.int j, .int hh]) nL2
            exact fin (.str j hh) L2' _ _ (fun z o h e => s5 _ _ (bb _ _ h (ba _ _ h (be _ _ h e)))) (sb.same s5) (by omega) upd_same (sb.ne nL2) ⟨by omega, (hb hh (List.mem_singleton.mpr rfl)).1, (hb hh (List.mem_singleton.mpr rfl)).2⟩
          refine ⟨.ref a, rfl, _, rfl, a, _, m + 1, rfl, sre, by omega, by omega, by omega, fun x Ha ba sa x0 x1 => ?_⟩
          obtain ⟨j, rfl⟩ := Int.eq_ofNat_of_zero_le x0
          refine ⟨(by show 1 ≤ sizeLine; decide), fun L nL => ?_⟩
          have s5 := same_new (H := Ha) (p := L) (.lst [.int j]) nL
          exact fin (.tak j) L _ _ (fun z o h e => s5 _ _ (ba _ _ h (be _ _ h e))) (sa.same s5) (by omega) upd_same (sa.ne nL) (by show j < ks.length; omega)
end

section
variable {P : Program} {w : World} {K : PySem.W.Frag} {mg : Str → Option Value} {base : Heap}
/-- item by item -/
def All2 {S : Type} (R : V → S → Prop) : List V → List S → Prop
  | [], [] => True
  | v :: vs, s :: ss => R v s ∧ All2 R vs ss
  | _, _ => False
theorem All2.mono {S : Type} {R R' : V → S → Prop} (h : ∀ v s, R v s → R' v s) : ∀ {vs : List V} {ss : List S}, All2 R vs ss → All2 R' vs ss
  | [], [], _ => trivial
  | _ :: _, _ :: _, ⟨a, b⟩ => ⟨h _ _ a, All2.mono h b⟩
theorem All2.len {S : Type} {R : V → S → Prop} : ∀ {vs : List V} {ss : List S}, All2 R vs ss → vs.length = ss.length
  | [], [], _ => rfl
  | _ :: _, _ :: _, ⟨_, b⟩ => congrArg (· + 1) b.len
theorem All2.snoc {S : Type} {R : V → S → Prop} {v : V} {s : S} (r : R v s) : ∀ {vs : List V} {ss : List S}, All2 R vs ss → All2 R (vs ++ [v]) (ss ++ [s])
  | [], [], _ => ⟨r, trivial⟩
  | _ :: _, _ :: _, ⟨a, b⟩ => ⟨a, b.snoc r⟩
theorem All2.back {S : Type} {R : V → S → Prop} : ∀ {vs : List V} {ss : List S} {s : S}, All2 R vs (ss ++ [s]) → ∃ vs0 v, vs = vs0 ++ [v] ∧ All2 R vs0 ss ∧ R v s
  | [], [], _, h => h.elim
  | [], _ :: _, _, h => h.elim
  | v :: vs, [], s, h => by
    obtain ⟨a, b⟩ := h
    cases vs with
    | nil => exact ⟨[], v, rfl, trivial, a⟩
    | cons _ _ => exact b.elim
  | v :: vs, s0 :: ss, s, h => by
    obtain ⟨a, b⟩ := h
    obtain ⟨vs0, u, rfl, c, d⟩ := All2.back b
    exact ⟨v :: vs0, u, rfl, ⟨a, c⟩, d⟩
/-- away from what moves: the wall, its calls, the list of states, the source -/
structure Off (x l2 A a c : Addr) : Prop where
  n1 : c ≠ x
  n2 : c ≠ l2
  n3 : c ≠ A
  n4 : c ≠ a
def ButM (x l2 A a : Addr) (H H' : Hp) : Prop := ∀ c o, Off x l2 A a c → H c = some o → H' c = some o
/-- a state in the law's list -/
def Sta (x l2 A a : Addr) (H : Hp) (v : V) (s : List Int × Nat) : Prop := ∃ t c, v = .ref t ∧ Off x l2 A a t ∧ Off x l2 A a c ∧ H t = some (.tup [.ref c, .int s.2]) ∧ H c = some (.lst (s.1.map V.int))
/-- a state in the wall's calls -/
def Cal (x l2 A a : Addr) (H : Hp) (v : V) (s : List Int × Nat) : Prop := ∃ t c, v = .ref t ∧ Off x l2 A a t ∧ Off x l2 A a c ∧ H t = some (.tup [.int s.2, .ref c]) ∧ H c = some (.lst (s.1.map V.int))
theorem Sta.but {x l2 A a : Addr} {H H' : Hp} (b : ButM x l2 A a H H') (v : V) (s : List Int × Nat) (h : Sta x l2 A a H v s) : Sta x l2 A a H' v s := by
  obtain ⟨t, c, e, o1, o2, h1, h2⟩ := h
  exact ⟨t, c, e, o1, o2, b _ _ o1 h1, b _ _ o2 h2⟩
theorem Cal.but {x l2 A a : Addr} {H H' : Hp} (b : ButM x l2 A a H H') (v : V) (s : List Int × Nat) (h : Cal x l2 A a H v s) : Cal x l2 A a H' v s := by
  obtain ⟨t, c, e, o1, o2, h1, h2⟩ := h
  exact ⟨t, c, e, o1, o2, b _ _ o1 h1, b _ _ o2 h2⟩
def Gd (s : List Int × Nat) : Prop := Hts s.1 ∧ s.1.length ≤ 200 ∧ 1 ≤ s.2 ∧ s.2 ≤ 30
/-- the wall and the law's states -/
structure Wn (C : Addr) (H : Hp) (x dx l2 A a : Addr) (ss : List (List Int × Nat)) (s : List Int × Nat) : Prop where
  st : ∃ vs, H A = some (.lst vs) ∧ All2 (Sta x l2 A a H) vs (ss ++ [s])
  wl : ∃ l1 cs, Wl H x C dx l1 l2 (s.2 : Nat) false 0 s.1 cs ∧ Off x l2 A a l1 ∧ All2 (Cal x l2 A a H) cs ss
  gd : ∀ z ∈ ss ++ [s], Gd z
  len : ss.length ≤ 70
  nA : A ≠ l2
  na : a ≠ l2
  nAa : A ≠ a
  nx : a ≠ x
  nAx : A ≠ x
theorem Wn.off {C : Addr} {H : Hp} {x dx l2 A a : Addr} {ss : List (List Int × Nat)} {s : List Int × Nat} (h : Wn C H x dx l2 A a ss s) (ha : ∃ o, H a = some o) {c : Addr} (n : H c = none) : Off x l2 A a c := by
  obtain ⟨vs, eA, _⟩ := h.st
  obtain ⟨l1, cs, wl, _, _⟩ := h.wl
  obtain ⟨o, ea⟩ := ha
  exact ⟨fun z => (by rw [z, wl.ob] at n; cases n), fun z => (by rw [z, wl.c2] at n; cases n), fun z => (by rw [z, eA] at n; cases n), fun z => (by rw [z, ea] at n; cases n)⟩
theorem Wn.same {C : Addr} {H H' : Hp} {x dx l2 A a : Addr} {ss : List (List Int × Nat)} {s : List Int × Nat} (h : Wn C H x dx l2 A a ss s) (b : Same H H') : Wn C H' x dx l2 A a ss s := by
  obtain ⟨⟨vs, eA, al⟩, ⟨l1, cs, wl, o1, ac⟩, r1, r2, r3, r4, r5, r6, r7⟩ := h
  have bm : ButM x l2 A a H H' := fun c o _ e => b _ _ e
  exact ⟨⟨vs, b _ _ eA, al.mono (Sta.but bm)⟩, ⟨l1, cs, wl.same b, o1, ac.mono (Cal.but bm)⟩, r1, r2, r3, r4, r5, r6, r7⟩
theorem Wn.src {C : Addr} {H H' : Hp} {x dx l2 A a : Addr} {ss : List (List Int × Nat)} {s : List Int × Nat} (h : Wn C H x dx l2 A a ss s) (b : But a H H') : Wn C H' x dx l2 A a ss s := by
  obtain ⟨⟨vs, eA, al⟩, ⟨l1, cs, wl, o1, ac⟩, r1, r2, r3, r4, r5, r6, r7⟩ := h
  have bm : ButM x l2 A a H H' := fun c o oc e => b _ _ oc.n4 e
  exact ⟨⟨vs, b _ _ r5 eA, al.mono (Sta.but bm)⟩, ⟨l1, cs, ⟨b _ _ (Ne.symm r6) wl.ob, b _ _ o1.n4 wl.c1, b _ _ (Ne.symm r4) wl.c2, wl.few, wl.ne⟩, o1, ac.mono (Cal.but bm)⟩, r1, r2, r3, r4, r5, r6, r7⟩
theorem exmEH (T : Txt K mg) : PySem.W.exmOne K (.ref T.a_EmptyHistoryError) (.ref T.a_EmptyHistoryError) = some true := by
  rw [T.e_EmptyHistoryError.exm T.e_EmptyHistoryError rfl, List.contains_cons, val_beq, decide_eq_true rfl]; rfl
theorem atI_m1 {α : Type} {xs : List α} {v : α} (h : xs.getLast? = some v) : atI xs (-1) = some v := by
  have hl : 0 < xs.length := by
    cases xs with
    | nil => cases h
    | cons _ _ => simp
  have e : ixN xs.length (-1) = some (xs.length - 1) := by
    unfold ixN
    rw [if_neg (by omega), if_pos (by omega)]
    congr 1
    omega
  unfold atI
  rw [e]
  rw [List.getLast?_eq_getElem?] at h
  exact h
def spUR (C : Addr) : Sp := fun vs H Q _ => ∃ (x dx l2 A a : Addr) (m : Int) (ss : List (List Int × Nat)) (s : List Int × Nat), vs = [.ref x, .ref A] ∧ Wn C H x dx l2 A a ss s ∧ Src H a m ∧
  ((ss = [] ∧ ∀ H', ButM x l2 A a H H' → Src H' a m → Wn C H' x dx l2 A a [] s → Q (.bl true) H') ∨ ∃ ss0 s0, ss = ss0 ++ [s0] ∧ ∀ H', ButM x l2 A a H H' → Src H' a m → Wn C H' x dx l2 A a ss0 s0 → Q (.bl true) H')
set_option maxHeartbeats 1000000 in
theorem ok_law_undo_right (T : Txt K mg) : FnOk P w K mg base CX0 8 T.a_law_undo_right T.d_law_undo_right ["one", "all_states"] (spUR T.C_Wall) := by
  refine T.F_law_undo_right.ok sc_law_undo_right (fun vs H Q E h => ?_) (fun cdv A0 outer s0 H vs Q E hr h => ?_)
  · obtain ⟨x, dx, l2, A, a, m, ss, s, rfl, _⟩ := h; rfl
  · obtain ⟨x, dx, l2, A, a, m, ss, s, rfl, wn, sr, q⟩ := h
    refine ⟨_, (pss_cons (ps_set (i := 2) sc_law_undo_right.nd rfl (.inl rfl) pe_str)
  (pss_cons (ps_try_only rfl rfl ⟨rfl, by decide, .inl T.e_EmptyHistoryError.g⟩ takes0 (fun W pn xe tk ho => (pss_one (ps_set (i := 2) sc_law_undo_right.nd rfl (.inl rfl) (pe_ifExp (pt_cmpR op_isN (pe_methS0 (pv 0) T.cl_Wall T.me_Wall_undo (okX_Wall_undo T) (hr.mono (by decide)) T.b_Wall_undo (fun σ => passAt tk σ)) pe_non (nomark _)) pe_str pe_str))))
  (fun a oe cls d pn hz hf => (pss_one (ps_set (i := 2) sc_law_undo_right.nd rfl (.inl rfl) pe_str))))
  (pss_cons (ps_if (pt_cmpR op_eq (pe_callB call_len_seq (by rfl) T.z_len (by decide +kernel) (pa_cons (pv 1) pa_nil)) pe_int (nomark _))
  (pss_one (ps_ret (pe_and (pe_cmpR op_eq (pv 2) pe_str (nomark _)) (pe_one (pe_call (ok_law_same T) (hr.mono (by decide)) (by rfl) T.g_law_same T.F_law_same.kp T.b_law_same .nil pass0 (pa_cons (pe_call (ok_law_seen T) hr (by rfl) T.g_law_seen T.F_law_seen.kp T.b_law_seen .nil pass0 (pa_cons (pv 0) pa_nil)) (pa_cons (pe_call (ok_law_due T) (hr.mono (by decide)) (by rfl) T.g_law_due T.F_law_due.kp T.b_law_due .nil pass0 (pa_cons (pe_ix ix_list (pv 1) pe_int (fun _ _ => rfl)) (pa_cons pe_bl (pa_cons pe_int pa_nil)))) pa_nil)))))))
  pss_nil)
  (pss_cons (ps_expr (pe_bm0 PySem.F.plainAttrs_list PySem.F.slot_list_pop PySem.F.type_list_pop mt_pop (pv 1)))
  (pss_one (ps_ret (pe_and (pe_cmpR op_eq (pv 2) pe_str (nomark _)) (pe_one (pe_call (ok_law_same T) (hr.mono (by decide)) (by rfl) T.g_law_same T.F_law_same.kp T.b_law_same .nil pass0 (pa_cons (pe_call (ok_law_seen T) hr (by rfl) T.g_law_seen T.F_law_seen.kp T.b_law_seen .nil pass0 (pa_cons (pv 0) pa_nil)) (pa_cons (pe_call (ok_law_due T) (hr.mono (by decide)) (by rfl) T.g_law_due T.F_law_due.kp T.b_law_due .nil pass0 (pa_cons (pe_ix ix_list (pv 1) (pe_un un_neg pe_int) (fun _ _ => rfl)) (pa_cons pe_bl (pa_cons pe_int pa_nil)))) pa_nil))))))))))), ?_⟩
    obtain ⟨vs, eA, al⟩ := wn.st
    obtain ⟨l1, cs, wl, o1, ac⟩ := wn.wl
    have lcs := ac.len
    have lss := wn.len
    refine ⟨.ref x, rfl, x, dx, _, rfl, wl.ob, rfl, x, dx, l1, l2, s.2, false, 0, s.1, cs, rfl, wl, by omega, ?_⟩
    rcases q with ⟨rfl, q⟩ | ⟨ss0, s0', rfl, q⟩
    · obtain rfl : cs = [] := List.length_eq_zero_iff.mp lcs
      obtain ⟨vs0, v, rfl, a0, t, c, rfl, ot, oc, et, ec⟩ := al.back
      obtain rfl : vs0 = [] := List.length_eq_zero_iff.mp a0.len
      have fin : ∀ H', Same H H' → Q (.bl true) H' := fun H' sm => q H' (fun c o _ e => sm _ _ e) (sr.same sm) (wn.same sm)
      have g : Gd s := wn.gd s (by simp)
      have gl := g.2.1
      refine .inl ⟨rfl, true, exmEH T, fun _ e ne => ?_, fun z => nomatch z⟩
      refine ⟨.ref A, rfl, A, _, rfl, .inl (SqL.of eA), rfl, _, rfl, ite_t (by simp) ?_⟩
      refine ⟨_, rfl, rfl, _, rfl, ite_t keq ?_⟩
      refine ⟨.ref x, rfl, x, dx, l1, l2, s.2, false, 0, s.1, [], rfl, wl, g.2.2.1, g.2.2.2, fun H1 p2 a2 f2 h2 b2 s1 np2 ep2 ea2 ef2 eh2 eb2 => ?_⟩
      refine ⟨.ref A, rfl, A, _, _, .ref t, rfl, rfl, SqL.of (s1 _ _ eA), rfl, t, c, s.2, false, 0, s.1, rfl, s1 _ _ et, s1 _ _ ec, by omega, g.2.2.1, g.2.2.2, fun H2 p f h b s2 np nf nh nb ep ef eh eb => ?_⟩
      exact ⟨.ref p2, .ref p, rfl, seen_due (s2 _ _ ep2) ep (s2 _ _ ea2) ((s1.trans s2) _ _ ec) (s2 _ _ ef2) ef (s2 _ _ eh2) eh (s2 _ _ eb2) eb (by omega) (by rw [colsV_len]; omega) (by rw [topsV_len]; omega) (by rw [bots_len]; have := g.2.2.2; omega), fun H3 s3 => fin H3 (s1.trans (s2.trans s3))⟩
    · obtain ⟨vs1, vl, rfl, a1, _⟩ := al.back
      obtain ⟨vs0, v, rfl, a0, t, c, rfl, ot, oc, et, ec⟩ := a1.back
      obtain ⟨cs0, vc, rfl, ac0, tc, c0, rfl, otc, oc0, etc, ec0⟩ := ac.back
      have g : Gd s0' := wn.gd s0' (by simp)
      have gl := g.2.1
      have lv := a0.len
      refine .inr ⟨tc, c0, s0'.2, s0'.1, cs0, rfl, ⟨etc, ec0, gl, oc0.n2⟩, fun H1 bu w1 => ⟨rfl, _, rfl, ite_t (by simp) ?_⟩⟩
      have eA1 := bu _ _ wn.nAx wn.nA eA
      refine ⟨.ref A, rfl, A, _, rfl, .inl (SqL.of eA1), rfl, _, rfl, ite_f (by simp; omega) ?_⟩
      refine ⟨.ref A, rfl, .inl ⟨rfl, _, SqL.of eA1⟩, A, _, vl, rfl, rfl, eA1, (by simp), ?_⟩
      rw [List.dropLast_concat]
      have eA2 : (L2.upd H1 A (.lst (vs0 ++ [.ref t]))) A = some (.lst (vs0 ++ [.ref t])) := upd_same
      have b2 : ∀ z o, z ≠ A → H1 z = some o → (L2.upd H1 A (.lst (vs0 ++ [.ref t]))) z = some o := fun z o h e => by rw [upd_ne h]; exact e
      generalize L2.upd H1 A _ = H2 at eA2 b2 ⊢
      have bM : ButM x l2 A a H H2 := fun z o oz e => b2 _ _ oz.n3 (bu _ _ oz.n1 oz.n2 e)
      have w2 : Wl H2 x T.C_Wall dx c0 l2 (s0'.2 : Nat) false 0 s0'.1 cs0 := ⟨b2 _ _ (Ne.symm wn.nAx) w1.ob, b2 _ _ oc0.n3 w1.c1, b2 _ _ (Ne.symm wn.nA) w1.c2, w1.few, w1.ne⟩
      have et2 := bM _ _ ot et
      have ec2 := bM _ _ oc ec
      have sr2 : Src H2 a m := by
        obtain ⟨p0, p1, p2, e, r⟩ := sr
        exact ⟨p0, p1, p2, b2 _ _ (Ne.symm wn.nAa) (bu _ _ wn.nx wn.na e), r⟩
      have fin : ∀ H', Same H2 H' → Q (.bl true) H' := fun H' sm => by
        have bM' : ButM x l2 A a H H' := fun z o oz e => sm _ _ (bM _ _ oz e)
        refine q H' bM' (sr2.same sm) ⟨⟨_, sm _ _ eA2, (a0.mono (Sta.but bM')).snoc ⟨t, c, rfl, ot, oc, sm _ _ et2, sm _ _ ec2⟩⟩, ⟨c0, cs0, w2.same sm, oc0, ac0.mono (Cal.but bM')⟩, fun z hz => wn.gd z (List.mem_append_left _ hz), ?_, wn.nA, wn.na, wn.nAa, wn.nx, wn.nAx⟩
        have := wn.len
        rw [List.length_append] at this
        omega
      refine ⟨_, rfl, rfl, _, rfl, ite_t keq ?_⟩
      refine ⟨.ref x, rfl, x, dx, c0, l2, s0'.2, false, 0, s0'.1, cs0, rfl, w2, g.2.2.1, g.2.2.2, fun H1 p2 a2 f2 h2 b2 s1 np2 ep2 ea2 ef2 eh2 eb2 => ?_⟩
      refine ⟨.ref A, rfl, _, rfl, A, _, _, .ref t, rfl, rfl, SqL.of (s1 _ _ eA2), atI_m1 (by simp), t, c, s0'.2, false, 0, s0'.1, rfl, s1 _ _ et2, s1 _ _ ec2, by omega, g.2.2.1, g.2.2.2, fun H2 p f h b s2 np nf nh nb ep ef eh eb => ?_⟩
      exact ⟨.ref p2, .ref p, rfl, seen_due (s2 _ _ ep2) ep (s2 _ _ ea2) ((s1.trans s2) _ _ ec2) (s2 _ _ ef2) ef (s2 _ _ eh2) eh (s2 _ _ eb2) eb (by omega) (by rw [colsV_len]; omega) (by rw [topsV_len]; omega) (by rw [bots_len]; have := g.2.2.2; omega), fun H3 s3 => fin H3 (s1.trans (s2.trans s3))⟩
end

section
variable {P : Program} {w : World} {K : PySem.W.Frag} {mg : Str → Option Value} {base : Heap}
def spCR (C : Addr) : Sp := fun vs H Q _ => ∃ (x dx l2 A a : Addr) (m : Int) (ss : List (List Int × Nat)) (s : List Int × Nat), vs = [.ref a, .ref x, .ref A] ∧ Wn C H x dx l2 A a ss s ∧ Src H a m ∧ m ≤ 80000 ∧ ss.length ≤ 69 ∧
  ∀ (s' : List Int × Nat) H', ButM x l2 A a H H' → Src H' a (m + 7) → Wn C H' x dx l2 A a (ss ++ [s]) s' → Q (.bl true) H'
set_option maxHeartbeats 2000000 in
theorem ok_law_call_right (T : Txt K mg) : FnOk P w K mg base CX0 11 T.a_law_call_right T.d_law_call_right ["source", "one", "all_states"] (spCR T.C_Wall) := by
  refine T.F_law_call_right.ok sc_law_call_right (fun vs H Q E h => ?_) (fun cdv A0 outer s0 H vs Q E hr h => ?_)
  · obtain ⟨x, dx, l2, A, a, m, ss, s, rfl, _⟩ := h; rfl
  · obtain ⟨x, dx, l2, A, a, m, ss, s, rfl, wn, sr, hm, hl, q⟩ := h
    refine ⟨_, (pss_cons (ps_set (i := 3) sc_law_call_right.nd rfl (.inl rfl) (pe_ix ix_list (pv 2) (pe_un un_neg pe_int) (fun _ _ => rfl)))
  (pss_cons (ps_set (i := 4) sc_law_call_right.nd rfl (.inl rfl) (pe_call (ok_law_deed T) (hr.mono (by decide)) (by rfl) T.g_law_deed T.F_law_deed.kp T.b_law_deed .nil pass0 (pa_cons (pv 0) (pa_cons (pv 3) pa_nil))))
  (pss_cons (ps_set (i := 5) sc_law_call_right.nd rfl (.inl rfl) (pe_call (ok_law_draw T) (hr.mono (by decide)) (by rfl) T.g_law_draw T.F_law_draw.kp T.b_law_draw .nil pass0 (pa_cons (pv 0) (pa_cons pe_int pa_nil))))
  (pss_cons (ps_if (pt_cmpR op_eq (pv 5) pe_int (nomark _))
  (pss_one (ps_set (i := 4) sc_law_call_right.nd rfl (.inl rfl) (pe_tup (pa_cons pe_str (pa_cons (pe_lst (pa_cons (pe_ix ix_tup (pv 3) pe_int (fun _ _ => rfl)) pa_nil)) pa_nil)))))
  pss_nil)
  (pss_cons (ps_if (pt_cmpR op_eq (pv 5) pe_int (nomark _))
  (pss_one (ps_set (i := 4) sc_law_call_right.nd rfl (.inl rfl) (pe_tup (pa_cons pe_str (pa_cons (pe_lst pa_nil) pa_nil)))))
  pss_nil)
  (pss_cons (ps_if (PW.pt (pw_and (pt_cmpR op_eq (pv 5) pe_int (nomark _)) (pw_and1 (pt_cmpR (op_neD hr.units) (pe_ix ix_tup (pv 3) pe_int (fun _ _ => rfl)) (pe_lst pa_nil) (nomark _)))))
  (pss_one (ps_set (i := 4) sc_law_call_right.nd rfl (.inl rfl) (pe_tup (pa_cons pe_str (pa_cons (pe_lst (pa_cons pe_int (pa_cons (pe_ix ix_list (pe_ix ix_tup (pv 3) pe_int (fun _ _ => rfl)) pe_int (fun _ _ => rfl)) pa_nil))) pa_nil)))))
  pss_nil)
  (pss_cons (ps_set (i := 6) sc_law_call_right.nd rfl (.inl rfl) (pe_call (ok_law_both T) hr (by rfl) T.g_law_both T.F_law_both.kp T.b_law_both .nil pass0 (pa_cons (pv 1) (pa_cons (pv 3) (pa_cons (pv 4) (pa_cons pe_bl (pa_cons pe_int pa_nil)))))))
  (pss_cons (ps_expr (pe_bm PySem.F.plainAttrs_list PySem.F.slot_list_append PySem.F.type_list_append mt_append (pv 2) (pa_cons (pv 6) pa_nil)))
  (pss_one (ps_ret (pe_cmpR op_notN (pv 6) pe_non (nomark _)))))))))))), ?_⟩
    obtain ⟨vs, eA, al⟩ := wn.st
    have lv := al.len
    rw [List.length_append, List.length_singleton] at lv
    obtain ⟨vs0, v, rfl, a0, t, c, rfl, ot, oc, et, ec⟩ := al.back
    obtain ⟨l1, cs, wl, o1, ac⟩ := wn.wl
    have lcs := ac.len
    have g : Gd s := wn.gd s (by simp)
    have gl := g.2.1
    have ea : ∃ o, H a = some o := sr.at
    have fin : ∀ (d : Dd) (H4 H5 : Hp) (t' c' tt m1 : Addr), But a H H4 → Src H4 a (m + 7) → d.fits s.1 → (H4 m1 = none ∨ m1 = l1) → ButW x l2 H4 H5 → H4 t' = none → (H4 c' = none ∨ c' = c) → H5 t' = some (.tup [.ref c', .int (d.n s.2 : Nat)]) → H5 c' = some (.lst ((d.ks s.1).map V.int)) → H4 tt = none → H5 tt = some (.tup [.int s.2, .ref l1]) →
        Wl H5 x T.C_Wall dx m1 l2 (d.n s.2 : Nat) false 0 (d.ks s.1) (cs ++ [.ref tt]) → Q (.bl true) (L2.upd H5 A (.lst (vs0 ++ [.ref t] ++ [.ref t']))) := fun d H4 H5 t' c' tt m1 b4 sr4 ft om bu nt' oc' et' ec' ntt ett w5 => by
      have w4 := wn.src b4
      have ea4 := sr4.at
      have ot' := w4.off ea4 nt'
      have ott := w4.off ea4 ntt
      have oc2 : Off x l2 A a c' := oc'.elim (fun z => w4.off ea4 z) fun z => by rw [z]; exact oc
      have om1 : Off x l2 A a m1 := om.elim (fun z => w4.off ea4 z) fun z => by rw [z]; exact o1
      have bM : ButM x l2 A a H (L2.upd H5 A (.lst (vs0 ++ [.ref t] ++ [.ref t']))) := fun z o oz e => by
        rw [upd_ne oz.n3]; exact bu _ _ oz.n1 oz.n2 (b4 _ _ oz.n4 e)
      have up : ∀ z o, z ≠ A → H5 z = some o → (L2.upd H5 A (.lst (vs0 ++ [.ref t] ++ [.ref t']))) z = some o := fun z o h e => by rw [upd_ne h]; exact e
      obtain ⟨p0, p1, p2, es, r⟩ := sr4
      obtain ⟨hh, hk⟩ := d.hts g.1 ft
      obtain ⟨d1, d2⟩ := d.nn ft g.2.2.1 g.2.2.2
      refine q (d.ks s.1, d.n s.2) _ bM ⟨p0, p1, p2, up _ _ (Ne.symm wn.nAa) (bu _ _ wn.nx wn.na es), r⟩ ⟨⟨_, upd_same, (al.mono (Sta.but bM)).snoc ⟨t', c', rfl, ot', oc2, up _ _ ot'.n3 et', up _ _ oc2.n3 ec'⟩⟩,
        ⟨m1, cs ++ [.ref tt], ⟨up _ _ (Ne.symm wn.nAx) w5.ob, up _ _ om1.n3 w5.c1, up _ _ (Ne.symm wn.nA) w5.c2, w5.few, w5.ne⟩, om1, (ac.mono (Cal.but bM)).snoc ⟨tt, l1, rfl, ott, o1, up _ _ ott.n3 ett, bM _ _ o1 wl.c1⟩⟩, fun z hz => ?_, ?_, wn.nA, wn.na, wn.nAa, wn.nx, wn.nAx⟩
      · rcases List.mem_append.mp hz with hz | hz
        · exact wn.gd z hz
        · rw [List.mem_singleton.mp hz]; exact ⟨hh, hk gl, d1, d2⟩
      · rw [List.length_append, List.length_singleton]; omega
    refine ⟨.ref A, rfl, _, rfl, A, _, _, .ref t, rfl, rfl, SqL.of eA, atI_m1 (by simp), ?_⟩
    refine ⟨.ref a, rfl, .ref t, rfl, a, t, c, m, s.2, s.1, rfl, sr, by omega, et, ec, Ne.symm oc.n4, gl, g.2.2.1, g.2.2.2, fun dv d H1 b1 sr1 hd ft => ?_⟩
    refine ⟨.ref a, rfl, a, 9, m + 6, rfl, sr1, by omega, by decide, by decide, fun r H2 b2 sr2 r0 r1 => ?_⟩
    have B2 : But a H H2 := fun z o h e => b2 _ _ h (b1 _ _ h e)
    have sr2 : Src H2 a (m + 7) := sr2.mono (by omega)
    have w2 := wn.src B2
    have et2 := B2 _ _ ot.n4 et
    have ec2 := B2 _ _ oc.n4 ec
    have eA2 := B2 _ _ wn.nAa eA
    have wl2 : Wl H2 x T.C_Wall dx l1 l2 (s.2 : Nat) false 0 s.1 cs := ⟨B2 _ _ (Ne.symm wn.nx) wl.ob, B2 _ _ o1.n4 wl.c1, B2 _ _ (Ne.symm wn.na) wl.c2, wl.few, wl.ne⟩
    have td2 : DdV H2 dv d := by
      obtain ⟨td, tl, rfl, h1, h2, al2⟩ := hd
      obtain ⟨p0, p1, p2, es, _⟩ := sr1
      exact ⟨td, tl, rfl, b2 _ _ (fun z => by rw [z, es] at h1; cases h1) h1, b2 _ _ al2 h2⟩
    by_cases h0 : r = 0
    · subst h0
      refine ⟨_, rfl, rfl, _, rfl, ite_t (decide_eq_true rfl) ?_⟩
      refine ⟨.ref t, rfl, t, _, _, .int s.2, rfl, rfl, SqT.of et2, rfl, (by show 1 ≤ sizeLine; decide), fun nl nnl => ?_⟩
      have s3 := same_new (H := H2) (p := nl) (.lst [.int s.2]) nnl
      have e3 : (L2.upd H2 nl (.lst [.int s.2])) nl = some (.lst [.int s.2]) := upd_same
      generalize L2.upd H2 nl _ = H3 at s3 e3 ⊢
      refine ⟨(by show 2 ≤ sizeLine; decide), fun nt3 nnt => ?_⟩
      have s4' := same_new (H := H3) (p := nt3) (.tup [.str "resize", .ref nl]) nnt
      have e4 : (L2.upd H3 nt3 (.tup [.str "resize", .ref nl])) nt3 = some (.tup [.str "resize", .ref nl]) := upd_same
      have e3 := s4' _ _ e3
      have s4 := s3.trans s4'
      generalize L2.upd H3 nt3 _ = H4 at s4 e4 e3 ⊢
      have b4 : But a H H4 := fun z o h e => s4 _ _ (B2 _ _ h e)
      refine ⟨_, rfl, rfl, _, rfl, ite_f (by simp) ?_⟩
      refine ⟨_, rfl, rfl, _, rfl, ite_f (by simp) ?_⟩
      refine ⟨.ref x, rfl, .ref t, rfl, .ref nt3, rfl, x, dx, l1, l2, t, c, .ref nt3, s.2, false, 0, s.1, cs, (.rsz s.2), rfl, (wl2.same s4), by omega, (s4 _ _ et2), (s4 _ _ ec2), oc.n2, ⟨nt3, nl, rfl, e4, e3⟩, ⟨g.2.2.1, g.2.2.2⟩, g.1, g.2.2.1, g.2.2.2, fun t' c' tt m1 H5 om bu nt' oc' et' ec' ntt ett w5 => ?_⟩
      refine ⟨.ref A, rfl, .inl ⟨rfl, _, SqL.of (bu _ _ wn.nAx wn.nA (s4 _ _ eA2))⟩, .ref t', rfl, A, _, _, rfl, rfl, bu _ _ wn.nAx wn.nA (s4 _ _ eA2), (by rw [lv]; exact small_of (m := 1000) (by omega) (by decide)), ?_⟩
      refine ⟨.ref t', rfl, rfl, ?_⟩
      exact fin (.rsz s.2) H4 H5 t' c' tt m1 b4 (sr2.same s4) ⟨g.2.2.1, g.2.2.2⟩ om bu nt' oc' et' ec' ntt ett w5
    · by_cases h1 : r = 1
      · subst h1
        refine ⟨_, rfl, rfl, _, rfl, ite_f (by simp) ?_⟩
        refine ⟨_, rfl, rfl, _, rfl, ite_t (decide_eq_true rfl) ?_⟩
        refine ⟨Nat.zero_le _, fun nl nnl => ?_⟩
        have s3 := same_new (H := H2) (p := nl) (.lst []) nnl
        have e3 : (L2.upd H2 nl (.lst [])) nl = some (.lst []) := upd_same
        generalize L2.upd H2 nl _ = H3 at s3 e3 ⊢
        refine ⟨(by show 2 ≤ sizeLine; decide), fun nt3 nnt => ?_⟩
        have s4' := same_new (H := H3) (p := nt3) (.tup [.str "add", .ref nl]) nnt
        have e4 : (L2.upd H3 nt3 (.tup [.str "add", .ref nl])) nt3 = some (.tup [.str "add", .ref nl]) := upd_same
        have e3 := s4' _ _ e3
        have s4 := s3.trans s4'
        generalize L2.upd H3 nt3 _ = H4 at s4 e4 e3 ⊢
        have b4 : But a H H4 := fun z o h e => s4 _ _ (B2 _ _ h e)
        refine ⟨_, rfl, rfl, _, rfl, ite_f (by simp) ?_⟩
        refine ⟨.ref x, rfl, .ref t, rfl, .ref nt3, rfl, x, dx, l1, l2, t, c, .ref nt3, s.2, false, 0, s.1, cs, (.add []), rfl, (wl2.same s4), by omega, (s4 _ _ et2), (s4 _ _ ec2), oc.n2, ⟨nt3, nl, rfl, e4, e3⟩, ⟨Nat.zero_le _, (fun k hk => nomatch hk), gl⟩, g.1, g.2.2.1, g.2.2.2, fun t' c' tt m1 H5 om bu nt' oc' et' ec' ntt ett w5 => ?_⟩
        refine ⟨.ref A, rfl, .inl ⟨rfl, _, SqL.of (bu _ _ wn.nAx wn.nA (s4 _ _ eA2))⟩, .ref t', rfl, A, _, _, rfl, rfl, bu _ _ wn.nAx wn.nA (s4 _ _ eA2), (by rw [lv]; exact small_of (m := 1000) (by omega) (by decide)), ?_⟩
        refine ⟨.ref t', rfl, rfl, ?_⟩
        exact fin (.add []) H4 H5 t' c' tt m1 b4 (sr2.same s4) ⟨Nat.zero_le _, (fun k hk => nomatch hk), gl⟩ om bu nt' oc' et' ec' ntt ett w5
      · by_cases h2 : r = 2
        · subst h2
          refine ⟨_, rfl, rfl, _, rfl, ite_f (by simp) ?_⟩
          refine ⟨_, rfl, rfl, _, rfl, ite_f (by simp) ?_⟩
          refine ⟨_, rfl, rfl, _, rfl, ite_t (decide_eq_true rfl) ?_⟩
          refine ⟨.ref t, rfl, t, _, _, .ref c, rfl, rfl, SqT.of et2, rfl, Nat.zero_le _, fun e ne => ⟨_, _, .lst (SqL.of (same_new _ ne _ _ ec2)) (dpInts s.1), .lst (SqL.of upd_same) .nil, shapedInts s.1, rfl, _, rfl, ?_⟩⟩
          rw [nil_eqv]
          have se := same_new (H := H2) (p := e) (.lst []) ne
          generalize L2.upd H2 e _ = H2' at se ⊢
          have B2 : But a H H2' := fun z o h q => se _ _ (B2 _ _ h q)
          have sr2 := sr2.same se
          have et2 := se _ _ et2
          have ec2 := se _ _ ec2
          have eA2 := se _ _ eA2
          have wl2 := wl2.same se
          have td2 := td2.same se
          by_cases hks : s.1 = []
          · rw [decide_eq_true hks]
            refine ite_f (by simp) ?_
            refine ⟨.ref x, rfl, .ref t, rfl, dv, rfl, x, dx, l1, l2, t, c, dv, s.2, false, 0, s.1, cs, d, rfl, wl2, by omega, et2, ec2, oc.n2, td2, ft, g.1, g.2.2.1, g.2.2.2, fun t' c' tt m1 H5 om bu nt' oc' et' ec' ntt ett w5 => ?_⟩
            refine ⟨.ref A, rfl, .inl ⟨rfl, _, SqL.of (bu _ _ wn.nAx wn.nA eA2)⟩, .ref t', rfl, A, _, _, rfl, rfl, bu _ _ wn.nAx wn.nA eA2, (by rw [lv]; exact small_of (m := 1000) (by omega) (by decide)), ?_⟩
            refine ⟨.ref t', rfl, rfl, ?_⟩
            exact fin d H2' H5 t' c' tt m1 B2 sr2 ft om bu nt' oc' et' ec' ntt ett w5
          · rw [decide_eq_false hks]
            refine ite_t (by simp) ?_
            obtain ⟨k0, kr, hk0⟩ : ∃ k0 kr, s.1 = k0 :: kr := by
              cases h : s.1 with
              | nil => exact absurd h hks
              | cons k0 kr => exact ⟨k0, kr, rfl⟩
            have kg : 1 ≤ k0 ∧ k0 ≤ big := g.1 k0 (by rw [hk0]; exact List.mem_cons_self)
            refine ⟨.ref t, rfl, t, _, _, .ref c, rfl, rfl, SqT.of et2, rfl, c, _, _, .int k0, rfl, rfl, SqL.of ec2, atI_nat (j := 0) (by rw [hk0]; rfl), (by show 2 ≤ sizeLine; decide), fun nl nnl => ?_⟩
            have s3 := same_new (H := H2') (p := nl) (.lst [.int 0, .int k0]) nnl
            have e3 : (L2.upd H2' nl (.lst [.int 0, .int k0])) nl = some (.lst [.int 0, .int k0]) := upd_same
            generalize L2.upd H2' nl _ = H3 at s3 e3 ⊢
            refine ⟨(by show 2 ≤ sizeLine; decide), fun nt3 nnt => ?_⟩
            have s4' := same_new (H := H3) (p := nt3) (.tup [.str "stretch", .ref nl]) nnt
            have e4 : (L2.upd H3 nt3 (.tup [.str "stretch", .ref nl])) nt3 = some (.tup [.str "stretch", .ref nl]) := upd_same
            have e3 := s4' _ _ e3
            have s4 := s3.trans s4'
            generalize L2.upd H3 nt3 _ = H4 at s4 e4 e3 ⊢
            have b4 : But a H H4 := fun z o h e => s4 _ _ (B2 _ _ h e)
            refine ⟨.ref x, rfl, .ref t, rfl, .ref nt3, rfl, x, dx, l1, l2, t, c, .ref nt3, s.2, false, 0, s.1, cs, (.str 0 k0), rfl, (wl2.same s4), by omega, (s4 _ _ et2), (s4 _ _ ec2), oc.n2, ⟨nt3, nl, rfl, e4, e3⟩, ⟨by rw [hk0]; simp, kg.1, kg.2⟩, g.1, g.2.2.1, g.2.2.2, fun t' c' tt m1 H5 om bu nt' oc' et' ec' ntt ett w5 => ?_⟩
            refine ⟨.ref A, rfl, .inl ⟨rfl, _, SqL.of (bu _ _ wn.nAx wn.nA (s4 _ _ eA2))⟩, .ref t', rfl, A, _, _, rfl, rfl, bu _ _ wn.nAx wn.nA (s4 _ _ eA2), (by rw [lv]; exact small_of (m := 1000) (by omega) (by decide)), ?_⟩
            refine ⟨.ref t', rfl, rfl, ?_⟩
            exact fin (.str 0 k0) H4 H5 t' c' tt m1 b4 (sr2.same s4) ⟨by rw [hk0]; simp, kg.1, kg.2⟩ om bu nt' oc' et' ec' ntt ett w5
        · refine ⟨_, rfl, rfl, _, rfl, ite_f (by simp; omega) ?_⟩
          refine ⟨_, rfl, rfl, _, rfl, ite_f (by simp; omega) ?_⟩
          refine ⟨_, rfl, rfl, _, rfl, ite_f (by simp; omega) ?_⟩
          refine ⟨.ref x, rfl, .ref t, rfl, dv, rfl, x, dx, l1, l2, t, c, dv, s.2, false, 0, s.1, cs, d, rfl, wl2, by omega, et2, ec2, oc.n2, td2, ft, g.1, g.2.2.1, g.2.2.2, fun t' c' tt m1 H5 om bu nt' oc' et' ec' ntt ett w5 => ?_⟩
          refine ⟨.ref A, rfl, .inl ⟨rfl, _, SqL.of (bu _ _ wn.nAx wn.nA eA2)⟩, .ref t', rfl, A, _, _, rfl, rfl, bu _ _ wn.nAx wn.nA eA2, (by rw [lv]; exact small_of (m := 1000) (by omega) (by decide)), ?_⟩
          refine ⟨.ref t', rfl, rfl, ?_⟩
          exact fin d H2 H5 t' c' tt m1 B2 sr2 ft om bu nt' oc' et' ec' ntt ett w5
end

section
variable {P : Program} {w : World} {K : PySem.W.Frag} {mg : Str → Option Value} {base : Heap}
def spIW20 (C : Addr) : Sp := fun vs H Q _ => ∃ (a dx : Addr) (n : Int), vs = [.ref a, .int n] ∧ H a = some (.ins C dx []) ∧ 1 ≤ n ∧ n ≤ 30 ∧ ∀ H2 l1 l2, But a H H2 → H l1 = none → H l2 = none → Wl H2 a C dx l1 l2 n false 0 [] [] → Q .non H2
theorem ok_Wall_init (T : Txt K mg) : FnOk P w K mg base CX0 3 T.fi_Wall T.di_Wall ["self", "columns"] (spIW20 T.C_Wall) := by
  refine T.Fi_Wall.ok sc_Wall_init (fun vs H Q E h => ?_) (fun cdv A outer s H vs Q E hr h => ?_)
  · obtain ⟨a, dx, n, rfl, _⟩ := h; rfl
  · obtain ⟨a, dx, n, rfl, ea, n1, n2, q⟩ := h
    refine ⟨_, pss_cons (ps_expr (pe_call (ok_check_columns T) hr (by rfl) T.g_check_columns T.F_check_columns.kp T.b_check_columns .nil pass0 (pa_cons (pv 1) pa_nil)))
      (pss_cons (ps_fld (pv 0) (pv 1) (by rfl)) (pss_cons (ps_fld (pv 0) pe_bl (by rfl)) (pss_cons (ps_fld (pv 0) pe_int (by rfl)) (pss_cons (ps_fld (pv 0) (pe_lst pa_nil) (by rfl)) (pss_one (ps_fld (pv 0) (pe_lst pa_nil) (by rfl))))))), ?_⟩
    refine ⟨.int n, rfl, n, rfl, n1, n2, ?_⟩
    refine ⟨.int n, rfl, .ref a, rfl, a, T.C_Wall, dx, _, rfl, ea, T.cl_Wall, T.na_columns_Wall, (by simp), ?_⟩
    have e1 : (L2.upd H a (.ins T.C_Wall dx (putF "_columns" (.int n) []))) a = some (.ins T.C_Wall dx [("_columns", .int n)]) := upd_same
    have b1 : But a H (L2.upd H a (.ins T.C_Wall dx (putF "_columns" (.int n) []))) := But.upd _ _ _
    generalize L2.upd H a _ = H1 at e1 b1 ⊢
    refine ⟨.ref a, rfl, a, T.C_Wall, dx, _, rfl, e1, T.cl_Wall, T.na_right_Wall, (by simp), ?_⟩
    have e2 : (L2.upd H1 a (.ins T.C_Wall dx (putF "_right" (.bl false) [("_columns", .int n)]))) a = some (.ins T.C_Wall dx [("_columns", .int n), ("_right", .bl false)]) := upd_same
    have b2 := b1.trans (But.upd a H1 (.ins T.C_Wall dx (putF "_right" (.bl false) [("_columns", .int n)])))
    generalize L2.upd H1 a _ = H2 at e2 b2 ⊢
    refine ⟨.ref a, rfl, a, T.C_Wall, dx, _, rfl, e2, T.cl_Wall, T.na_gap_Wall, (by simp), ?_⟩
    have e3 : (L2.upd H2 a (.ins T.C_Wall dx (putF "_gap" (.int 0) [("_columns", .int n), ("_right", .bl false)]))) a = some (.ins T.C_Wall dx [("_columns", .int n), ("_right", .bl false), ("_gap", .int 0)]) := upd_same
    have b3 := b2.trans (But.upd a H2 (.ins T.C_Wall dx (putF "_gap" (.int 0) [("_columns", .int n), ("_right", .bl false)])))
    generalize L2.upd H2 a _ = H3 at e3 b3 ⊢
    refine ⟨Nat.zero_le _, fun l1 nl1 => ?_⟩
    have l1a : l1 ≠ a := fun z => by rw [z, e3] at nl1; cases nl1
    have s4 := same_new (H := H3) (p := l1) (.lst []) nl1
    have f1 : (L2.upd H3 l1 (.lst [])) l1 = some (.lst []) := upd_same
    have free1 : H l1 = none := by
      cases z : H l1 with
      | none => rfl
      | some o => rw [b3 _ _ l1a z] at nl1; cases nl1
    generalize L2.upd H3 l1 _ = H4 at s4 f1 ⊢
    refine ⟨.ref a, rfl, a, T.C_Wall, dx, _, rfl, s4 _ _ e3, T.cl_Wall, T.na_cards_Wall, (by simp), ?_⟩
    have e5 : (L2.upd H4 a (.ins T.C_Wall dx (putF "_cards" (.ref l1) [("_columns", .int n), ("_right", .bl false), ("_gap", .int 0)]))) a = some (.ins T.C_Wall dx [("_columns", .int n), ("_right", .bl false), ("_gap", .int 0), ("_cards", .ref l1)]) := upd_same
    have f1' : (L2.upd H4 a (.ins T.C_Wall dx (putF "_cards" (.ref l1) [("_columns", .int n), ("_right", .bl false), ("_gap", .int 0)]))) l1 = some (.lst []) := by rw [upd_ne l1a]; exact f1
    have b5 := (b3.trans (But.of s4)).trans (But.upd a H4 (.ins T.C_Wall dx (putF "_cards" (.ref l1) [("_columns", .int n), ("_right", .bl false), ("_gap", .int 0)])))
    generalize L2.upd H4 a _ = H5 at e5 f1' b5 ⊢
    refine ⟨Nat.zero_le _, fun l2 nl2 => ?_⟩
    have l2a : l2 ≠ a := fun z => by rw [z, e5] at nl2; cases nl2
    have l12 : l1 ≠ l2 := fun z => by rw [← z, f1'] at nl2; cases nl2
    have free2 : H l2 = none := by
      cases z : H l2 with
      | none => rfl
      | some o => rw [b5 _ _ l2a z] at nl2; cases nl2
    have s6 := same_new (H := H5) (p := l2) (.lst []) nl2
    have f2 : (L2.upd H5 l2 (.lst [])) l2 = some (.lst []) := upd_same
    generalize L2.upd H5 l2 _ = H6 at s6 f2 ⊢
    refine ⟨.ref a, rfl, a, T.C_Wall, dx, _, rfl, s6 _ _ e5, T.cl_Wall, T.na_calls_Wall, (by simp), ?_⟩
    exact q _ l1 l2 ((b5.trans (But.of s6)).trans (But.upd _ _ _)) free1 free2 ⟨upd_same, by rw [upd_ne l1a]; exact s6 _ _ f1', by rw [upd_ne l2a]; exact f2, Nat.zero_le _, l12⟩
/-- the law's loop -/
structure Lp (C : Addr) (H H' : Hp) (x dx l2 A a : Addr) (m : Nat) (k : Int) (L : Nat) : Prop where
  ex : ∃ ss s, Wn C H' x dx l2 A a ss s ∧ ss.length ≤ L ∧ (ss ++ [s]).head? = some ([], m)
  sr : Src H' a k
  bt : But a H H'
theorem Lp.mono {C : Addr} {H H' : Hp} {x dx l2 A a : Addr} {m : Nat} {k k' : Int} {L L' : Nat} (h : Lp C H H' x dx l2 A a m k L) (hk : k ≤ k') (hL : L ≤ L') : Lp C H H' x dx l2 A a m k' L' := by
  obtain ⟨⟨ss, s, w, l, hd⟩, sr, bt⟩ := h
  exact ⟨⟨ss, s, w, by omega, hd⟩, sr.mono hk, bt⟩
theorem Lp.draw {C : Addr} {H H1 H' : Hp} {x dx l2 A a : Addr} {m : Nat} {k k' : Int} {L : Nat} (h : Lp C H H1 x dx l2 A a m k L) (b : But a H1 H') (sr : Src H' a k') : Lp C H H' x dx l2 A a m k' L := by
  obtain ⟨⟨ss, s, w, l, hd⟩, _, bt⟩ := h
  exact ⟨⟨ss, s, w.src b, l, hd⟩, sr, bt.trans b⟩
theorem butM_but {x l2 A a : Addr} {H H1 H' : Hp} (b : ButM x l2 A a H1 H') (bt : But a H H1) (nx : H x = none) (nl : H l2 = none) (nA : H A = none) : But a H H' := fun c o ca e =>
  b _ _ ⟨ne_of_none e nx, ne_of_none e nl, ne_of_none e nA, ca⟩ (bt _ _ ca e)
theorem head_snoc {α : Type} {ss : List α} {s z : α} (h : (ss ++ [s]).head? = some z) (t : α) : (ss ++ [s] ++ [t]).head? = some z := by
  rw [List.head?_append, h]; rfl
theorem head_pop {α : Type} {ss : List α} {s t z : α} (h : (ss ++ [s] ++ [t]).head? = some z) : (ss ++ [s]).head? = some z := by
  cases ss with
  | nil => exact h
  | cons a l => exact h
def spHolds (K : PySem.W.Frag) : Sp := fun vs H Q _ => ∃ (a sc : Addr) (ns : List Int), vs = [.ref a, .ref sc] ∧ Src H a 0 ∧ Scr K H sc (ns.map V.int) ∧ ∀ H', But a H H' → Q (.bl true) H'
set_option maxHeartbeats 2000000 in
theorem ok_law_holds (T : Txt K mg) : FnOk P w K mg base CX0 12 T.a_law_holds T.d_law_holds ["source", "script"] (spHolds K) := by
  refine T.F_law_holds.ok sc_law_holds (fun vs H Q E h => ?_) (fun cdv A0 outer s0 H vs Q E hr h => ?_)
  · obtain ⟨a, sc, ns, rfl, _⟩ := h; rfl
  · obtain ⟨a, sc, ns, rfl, sr, hS, q⟩ := h
    refine ⟨_, (pss_cons (ps_set (i := 2) sc_law_holds.nd rfl (.inl rfl) (pe_call (ok_law_size T) (hr.mono (by decide)) (by rfl) T.g_law_size T.F_law_size.kp T.b_law_size .nil pass0 (pa_cons (pv 0) (pa_cons (pv 1) pa_nil))))
  (pss_cons (ps_par (i := 3) (j := 4) rfl sc_law_holds.nd rfl rfl (by decide) rfl rfl (pa_cons (pe_make T.mk_Wall (ok_Wall_init T) (hr.mono (by decide)) (by rfl) T.gc_Wall T.bi_Wall .nil pass0 (pa_cons (pv 2) pa_nil)) (pa_cons (pe_lst (pa_cons (pe_tup (pa_cons (pe_lst pa_nil) (pa_cons (pv 2) pa_nil))) pa_nil)) pa_nil)) (by rfl))
  (pss_cons (ps_for PassesOwn.never rfl (pi_range1 (by rfl) T.z_range (pa_cons (pe_ifExp (pt_cmpR (op_eqD hr.units) (pv 1) (pe_lst pa_nil) (nomark _)) pe_int pe_int) pa_nil)) (pg_name (i := 5) sc_law_holds.nd rfl (.inl rfl))
  (pss_one (ps_if (pt_cmpR op_gt (pe_call (ok_law_draw T) (hr.mono (by decide)) (by rfl) T.g_law_draw T.F_law_draw.kp T.b_law_draw .nil pass0 (pa_cons (pv 0) (pa_cons pe_int pa_nil))) pe_int (nomark _))
  (pss_one (ps_if (pt_not (pt_val (pe_call (ok_law_call_right T) hr (by rfl) T.g_law_call_right T.F_law_call_right.kp T.b_law_call_right .nil pass0 (pa_cons (pv 0) (pa_cons (pv 3) (pa_cons (pv 4) pa_nil))))))
  (pss_one (ps_ret pe_bl))
  pss_nil))
  (pss_one (ps_for PassesOwn.never rfl (pi_range1 (by rfl) T.z_range (pa_cons (pe_op op_add pe_int (pe_call (ok_law_draw T) (hr.mono (by decide)) (by rfl) T.g_law_draw T.F_law_draw.kp T.b_law_draw .nil pass0 (pa_cons (pv 0) (pa_cons pe_int pa_nil)))) pa_nil)) (pg_name (i := 6) sc_law_holds.nd rfl (.inl rfl))
  (pss_one (ps_if (pt_not (pt_val (pe_call (ok_law_undo_right T) (hr.mono (by decide)) (by rfl) T.g_law_undo_right T.F_law_undo_right.kp T.b_law_undo_right .nil pass0 (pa_cons (pv 3) (pa_cons (pv 4) pa_nil)))))
  (pss_one (ps_ret pe_bl))
  pss_nil)))))))
  (pss_cons (ps_for PassesOwn.never rfl (pi_range1 (by rfl) T.z_range (pa_cons (pe_callB call_len_seq (by rfl) T.z_len (by decide +kernel) (pa_cons (pv 4) pa_nil)) pa_nil)) (pg_name (i := 6) sc_law_holds.nd rfl (.inl rfl))
  (pss_one (ps_if (pt_not (pt_val (pe_call (ok_law_undo_right T) (hr.mono (by decide)) (by rfl) T.g_law_undo_right T.F_law_undo_right.kp T.b_law_undo_right .nil pass0 (pa_cons (pv 3) (pa_cons (pv 4) pa_nil)))))
  (pss_one (ps_ret pe_bl))
  pss_nil)))
  (pss_one (ps_ret (pe_and (pe_cmpR op_eq (pe_callB (call_lenI T.me_Wall_len.at_ T.me_Wall_len.fn (FnOk.raw (ok_Wall_len T) T.b_Wall_len .nil) (hr.mono (by decide)) pass0) (by rfl) T.z_len (by decide +kernel) (pa_cons (pv 3) pa_nil)) pe_int (nomark _)) (pe_one (pe_cmpR op_eq (pe_prop (pv 3) T.cl_Wall T.pwidth_Wall (ok_Wall_width T) (hr.mono (by decide)) T.bwidth_Wall .nil pass0 (by rfl)) (pv 2) (nomark _)))))))))), ?_⟩
    refine ⟨.ref a, rfl, .ref sc, rfl, a, sc, 0, ns, rfl, sr, by decide, hS, fun m H1 b1 sr1 m1 m2 => ?_⟩
    have hS1 : Scr K H1 sc (ns.map V.int) := hS.but (p := a) (fun o u z => by obtain ⟨_, _, _, e, _⟩ := sr; rw [e] at z; cases z) b1
    refine ⟨.int m, rfl, fun x dx nx nd ndx => ⟨x, dx, m, rfl, upd_same, by omega, by omega, fun H2 l1 l2 b2 nl1 nl2 wl => ⟨rfl, ?_⟩⟩⟩
    have s12 : Same H1 H2 := fun c o e => by
      have hx : c ≠ x := ne_of_none e nx
      have hd : c ≠ dx := ne_of_none e nd
      exact b2 c o hx (by rw [upd_ne hx, upd_ne hd]; exact e)
    have l1x : l1 ≠ x := fun z => by rw [z, upd_same] at nl1; cases nl1
    have l1d : l1 ≠ dx := fun z => by rw [z, upd_ne ndx, upd_same] at nl1; cases nl1
    have l2x : l2 ≠ x := fun z => by rw [z, upd_same] at nl2; cases nl2
    have l2d : l2 ≠ dx := fun z => by rw [z, upd_ne ndx, upd_same] at nl2; cases nl2
    have nl1 : H1 l1 = none := by rw [upd_ne l1x, upd_ne l1d] at nl1; exact nl1
    have nl2 : H1 l2 = none := by rw [upd_ne l2x, upd_ne l2d] at nl2; exact nl2
    refine ⟨Nat.zero_le _, fun c nc => ?_⟩
    have s3' := same_new (H := H2) (p := c) (.lst []) nc
    have ec : (L2.upd H2 c (.lst [])) c = some (.lst []) := upd_same
    generalize L2.upd H2 c _ = H3 at s3' ec ⊢
    refine ⟨.int m, rfl, (by show 2 ≤ sizeLine; decide), fun t nt => ?_⟩
    have s4' := same_new (H := H3) (p := t) (.tup [.ref c, .int m]) nt
    have et : (L2.upd H3 t (.tup [.ref c, .int m])) t = some (.tup [.ref c, .int m]) := upd_same
    have ec4 := s4' _ _ ec
    generalize L2.upd H3 t _ = H4 at s4' et ec4 ⊢
    refine ⟨(by show 1 ≤ sizeLine; decide), fun A nA => ?_⟩
    have s5' := same_new (H := H4) (p := A) (.lst [.ref t]) nA
    have eA : (L2.upd H4 A (.lst [.ref t])) A = some (.lst [.ref t]) := upd_same
    have et5 := s5' _ _ et
    have ec5 := s5' _ _ ec4
    generalize L2.upd H4 A _ = H5 at s5' eA et5 ec5 ⊢
    refine ⟨_, _, rfl, ?_⟩
    have S25 := s3'.trans (s4'.trans s5')
    have S15 := s12.trans S25
    have w5 := wl.same S25
    have sr5 := sr1.same S15
    obtain ⟨oa, eoa⟩ := sr1.at
    have ea2 := s12 _ _ eoa
    have ea3 := s3' _ _ ea2
    have ea4 := s4' _ _ ea3
    have hfree : ∀ z, z ≠ a → H1 z = none → H z = none := fun z hz e => by
      cases y : H z with
      | none => rfl
      | some o => rw [b1 _ _ hz y] at e; cases e
    have xa : x ≠ a := fun z => by rw [z, eoa] at nx; cases nx
    have l2a : l2 ≠ a := fun z => by rw [z, eoa] at nl2; cases nl2
    have l1a : l1 ≠ a := fun z => by rw [z, eoa] at nl1; cases nl1
    have nA1 : H1 A = none := s12.free ((s3'.trans s4').free nA)
    have Aa : A ≠ a := fun z => by rw [z, eoa] at nA1; cases nA1
    have nx0 := hfree x xa nx
    have nl0 := hfree l2 l2a nl2
    have nA0 := hfree A Aa nA1
    have wn : Wn T.C_Wall H5 x dx l2 A a [] ([], m) := by
      have c2 : Off x l2 A a c := ⟨fun z => (by rw [z, wl.ob] at nc; cases nc), fun z => (by rw [z, wl.c2] at nc; cases nc), fun z => (by rw [← z, ec4] at nA; cases nA), fun z => (by rw [z, ea2] at nc; cases nc)⟩
      have t2 : Off x l2 A a t := ⟨fun z => (by rw [z, s3' _ _ wl.ob] at nt; cases nt), fun z => (by rw [z, s3' _ _ wl.c2] at nt; cases nt), fun z => (by rw [← z, et] at nA; cases nA), fun z => (by rw [z, ea3] at nt; cases nt)⟩
      have A2 : A ≠ x ∧ A ≠ l2 ∧ A ≠ l1 := ⟨fun z => (by rw [z, (s3'.trans s4') _ _ wl.ob] at nA; cases nA), fun z => (by rw [z, (s3'.trans s4') _ _ wl.c2] at nA; cases nA), fun z => (by rw [z, (s3'.trans s4') _ _ wl.c1] at nA; cases nA)⟩
      exact ⟨⟨[.ref t], eA, ⟨t, c, rfl, t2, c2, et5, ec5⟩, trivial⟩, ⟨l1, [], w5, ⟨l1x, wl.ne, Ne.symm A2.2.2, l1a⟩, trivial⟩, fun z hz => (by rw [List.mem_singleton.mp hz]; exact ⟨(fun k hk => nomatch hk), Nat.zero_le _, m1, m2⟩), Nat.zero_le _, A2.2.1, Ne.symm l2a, Aa, Ne.symm xa, A2.1⟩
    have L5 : Lp T.C_Wall H H5 x dx l2 A a m 3 0 := ⟨⟨[], ([], m), wn, Nat.le_refl _, rfl⟩, sr5, b1.trans (But.of S15)⟩
    refine ⟨.ref sc, rfl, Nat.zero_le _, fun e ne => ?_⟩
    have s6' := same_new (H := H5) (p := e) (.lst []) ne
    have hS6 := (hS1.same S15).same s6'
    refine ⟨_, _, .lst hS6.sq (dpInts ns), .lst (SqL.of upd_same) .nil, shapedInts ns, rfl, ?_⟩
    have L6 : Lp T.C_Wall H (L2.upd H5 e (.lst [])) x dx l2 A a m 3 0 := L5.draw (But.of s6') (sr5.same s6')
    generalize L2.upd H5 e _ = H6 at L6 ⊢
    refine ⟨_, rfl, ite2 (fun _ => ⟨10, rfl, by decide, by decide, ?_⟩) (fun _ => ⟨60, rfl, by decide, by decide, ?_⟩)⟩
    all_goals
      refine for_range (lo := 0) (n := _) (fun i σ H' => ∃ y5 y6, σ = [some (.ref a), some (.ref sc), some (.int m), some (.ref x), some (.ref A), y5, y6] ∧ Lp T.C_Wall H H' x dx l2 A a m (3 + 10 * (i : Nat)) i) ⟨none, none, rfl, L6.mono (by simp) (Nat.le_refl _)⟩ (fun i σ H' hi h => ?_) (fun σ H' h => ?_)
      · obtain ⟨y5, y6, rfl, L⟩ := h
        have hi : i < 60 := Nat.lt_of_lt_of_le hi (by decide)
        refine ⟨.ref a, rfl, a, 4, _, rfl, L.sr, by omega, by decide, by decide, fun r H7 b7 sr7 r0 r1 => ⟨r, 0, rfl, rfl, _, rfl, ite2 (fun _ => ?_) (fun _ => ?_)⟩⟩
        · obtain ⟨⟨ss, s, wn7, lss, hd⟩, _, bt⟩ := L.draw b7 sr7
          refine ⟨.ref a, rfl, .ref x, rfl, .ref A, rfl, x, dx, l2, A, a, _, ss, s, rfl, wn7, sr7, by omega, by omega, fun s' H8 bM sr8 w8 => ⟨true, rfl, iteF ⟨_, _, rfl, ?_⟩⟩⟩
          exact ⟨⟨ss ++ [s], s', w8, by rw [List.length_append, List.length_singleton]; omega, head_snoc hd s'⟩, sr8.mono (by push_cast; omega), butM_but bM bt nx0 nl0 nA0⟩
        · refine ⟨.ref a, rfl, a, 3, _, rfl, sr7, by omega, by decide, by decide, fun r2 H8 b8 sr8 r20 r21 => ⟨1, r2, rfl, rfl, 1 + r2, rfl, by omega, by omega, ?_⟩⟩
          have L8 := (L.draw b7 sr7).draw b8 sr8
          refine for_range (lo := 0) (n := _) (fun i2 σ H' => ∃ y6, σ = [some (.ref a), some (.ref sc), some (.int m), some (.ref x), some (.ref A), some (.int (0 + (i : Nat))), y6] ∧ Lp T.C_Wall H H' x dx l2 A a m (3 + 10 * (i : Nat) + 1 + 1) i) ⟨y6, rfl, L8⟩ (fun i2 σ H9 hi2 h => ?_) (fun σ H9 h => ?_)
          · obtain ⟨y6', rfl, L9⟩ := h
            obtain ⟨⟨ssj, sj, wj, lj, hdj⟩, srj, btj⟩ := L9
            refine ⟨.ref x, rfl, .ref A, rfl, x, dx, l2, A, a, _, ssj, sj, rfl, wj, srj, ?_⟩
            rcases List.eq_nil_or_concat ssj with rfl | ⟨ss0, s0', rfl⟩
            · exact .inl ⟨rfl, fun H2 bM sr2 w2 => ⟨true, rfl, iteF ⟨_, rfl, ⟨⟨[], sj, w2, Nat.zero_le _, hdj⟩, sr2, butM_but bM btj nx0 nl0 nA0⟩⟩⟩⟩
            · refine .inr ⟨ss0, s0', by simp, fun H2 bM sr2 w2 => ⟨true, rfl, iteF ⟨_, rfl, ⟨⟨ss0, s0', w2, ?_, head_pop (s := s0') (t := sj) (by simpa using hdj)⟩, sr2, butM_but bM btj nx0 nl0 nA0⟩⟩⟩⟩
              simp only [List.concat_eq_append, List.length_append, List.length_singleton] at lj
              omega
          · obtain ⟨y6', rfl, L9⟩ := h
            exact ⟨_, _, rfl, L9.mono (by push_cast; omega) (by omega)⟩
      · obtain ⟨y5, y6, rfl, L⟩ := h
        obtain ⟨⟨ss, s, wn7, lss, hd⟩, srz, bt⟩ := L
        obtain ⟨vs, eA7, al⟩ := wn7.st
        have lv := al.len
        rw [List.length_append, List.length_singleton] at lv
        have l70 := wn7.len
        refine ⟨.ref A, rfl, A, _, rfl, .inl (SqL.of eA7), vs.length, rfl, by omega, by omega, ?_⟩
        rw [lv]
        refine for_range (lo := 0) (n := _) (fun j σ H' => ∃ y6, σ = [some (.ref a), some (.ref sc), some (.int m), some (.ref x), some (.ref A), y5, y6] ∧ Lp T.C_Wall H H' x dx l2 A a m _ (ss.length - j)) ⟨y6, rfl, ⟨⟨ss, s, wn7, Nat.le_refl _, hd⟩, srz, bt⟩⟩ (fun j σ H9 hj h => ?_) (fun σ H9 h => ?_)
        · obtain ⟨y6', rfl, L9⟩ := h
          obtain ⟨⟨ssj, sj, wj, lj, hdj⟩, srj, btj⟩ := L9
          refine ⟨.ref x, rfl, .ref A, rfl, x, dx, l2, A, a, _, ssj, sj, rfl, wj, srj, ?_⟩
          rcases List.eq_nil_or_concat ssj with rfl | ⟨ss0, s0', rfl⟩
          · exact .inl ⟨rfl, fun H2 bM sr2 w2 => ⟨true, rfl, iteF ⟨_, rfl, ⟨⟨[], sj, w2, Nat.zero_le _, hdj⟩, sr2, butM_but bM btj nx0 nl0 nA0⟩⟩⟩⟩
          · refine .inr ⟨ss0, s0', by simp, fun H2 bM sr2 w2 => ⟨true, rfl, iteF ⟨_, rfl, ⟨⟨ss0, s0', w2, ?_, head_pop (s := s0') (t := sj) (by simpa using hdj)⟩, sr2, butM_but bM btj nx0 nl0 nA0⟩⟩⟩⟩
            simp only [List.concat_eq_append, List.length_append, List.length_singleton] at lj
            omega
        · obtain ⟨y6', rfl, ⟨⟨ss9, s9, w9, l9, hd9⟩, _, bt9⟩⟩ := h
          obtain rfl : ss9 = [] := List.length_eq_zero_iff.mp (by rw [Int.toNat_natCast] at l9; omega)
          obtain rfl : s9 = ([], m) := by simpa using hd9
          obtain ⟨l1', cs', wl9, _, _⟩ := w9.wl
          refine ⟨.ref x, rfl, x, dx, _, rfl, wl9.ob, x, dx, l1', l2, m, false, 0, [], cs', rfl, wl9, 0, rfl, by decide, by decide, ?_⟩
          refine ⟨rfl, _, rfl, iteT ?_⟩
          refine ⟨.ref x, rfl, x, dx, _, rfl, wl9.ob, x, dx, l1', l2, m, false, 0, [], cs', rfl, wl9, .int m, rfl, rfl, ?_⟩
          show Q (.bl (decide (V.int m = V.int m))) _
          rw [decide_eq_true rfl]
          exact q _ bt9
def spLaw (K : PySem.W.Frag) : Sp := fun vs H Q _ => ∃ (a : Addr) (ns : List Int), vs = [.ref a] ∧ Scr K H a (ns.map V.int) ∧ ns.length ≤ 63 ∧ ∀ H', Q (.bl true) H'
theorem ok_law (T : Txt K mg) : FnOk P w K mg base CX0 13 T.a_law T.d_law ["script"] (spLaw K) := by
  refine T.F_law.ok sc_law (fun vs H Q E h => ?_) (fun cdv A outer s H vs Q E hr h => ?_)
  · obtain ⟨a, ns, rfl, _⟩ := h; rfl
  · obtain ⟨a, ns, rfl, hS, hl, q⟩ := h
    refine ⟨_, (pss_cons (ps_for PassesOwn.never rfl (pi_enum (by rfl) T.z_enumerate (pa_cons (pe_call (ok_law_cells T) (hr.mono (by decide)) (by rfl) T.g_law_cells T.F_law_cells.kp T.b_law_cells .nil pass0 (pa_cons (pv 0) (pa_cons pe_int pa_nil))) pa_nil)) (pg_tup rfl (pgs_cons (pg_name (i := 1) sc_law.nd rfl (.inl rfl)) (pgs_cons (pg_name (i := 2) sc_law.nd rfl (.inl rfl)) pgs_nil)))
  (pss_one (ps_if (pt_not (pt_val (pe_call (ok_law_holds T) hr (by rfl) T.g_law_holds T.F_law_holds.kp T.b_law_holds .nil pass0 (pa_cons (pe_call (ok_law_source T) (hr.mono (by decide)) (by rfl) T.g_law_source T.F_law_source.kp T.b_law_source .nil pass0 (pa_cons (pv 2) (pa_cons (pv 1) pa_nil))) (pa_cons (pv 0) pa_nil)))))
  (pss_one (ps_ret pe_bl))
  pss_nil)))
  (pss_one (ps_ret pe_bl))), ?_⟩
    refine ⟨.ref a, rfl, a, ns, 8, rfl, hS, by decide, fun C H6 cs s6 eC lc => ?_⟩
    refine ⟨C, _, rfl, SqL.of eC, ?_⟩
    refine for_enum (K := K) (a := C) (xs := cs.map V.int) (fun i σ H' => ∃ y1 y2, σ = [some (.ref a), y1, y2] ∧ Same H6 H') ⟨none, none, rfl, Same.refl _⟩ (fun i σ H' _ h => ?_) (fun i x σ H' Tp ex h nTp => ?_) (fun σ H' h => ?_)
    · obtain ⟨_, _, _, s'⟩ := h
      exact SqL.of (s' _ _ eC)
    · obtain ⟨y1, y2, rfl, s'⟩ := h
      obtain ⟨cell, ec, rfl⟩ := get_map ex
      have hi := get_lt ec
      have sT := same_new (H := H') (p := Tp) (.tup [.int (i : Nat), .int cell]) nTp
      refine ⟨Tp, [_, _], rfl, SqT.of upd_same, rfl, _, [_], rfl, _, [], rfl, rfl, ?_⟩
      have S3 := s'.trans sT
      generalize L2.upd H' Tp _ = H7 at S3 ⊢
      refine ⟨.int cell, rfl, .int (i : Nat), rfl, cell, i, rfl, by omega, by omega, fun p H8 np s8 P8 => ?_⟩
      have S8 := S3.trans s8
      refine ⟨.ref a, rfl, p, a, ns, rfl, P8, hS.same (s6.trans S8), fun H9 b9 => ⟨true, rfl, iteF ⟨_, _, rfl, ?_⟩⟩⟩
      exact same_but S8 (S3.free np) b9
    · exact q _
end

set_option maxHeartbeats 4000000 in
theorem all_mk {l : PySem.W.OpenLaw} {w : World} {K : PySem.W.Frag} {h : Heap} {mg : Str → Option Value} {fa : Addr}
  (X : K.In h) (G : h.Ns mainGlobals mg) (hfa : mg "law" = some (.ref fa))
  {CLowcolumnsError : Addr} {ocLowcolumnsError : Value} {odLowcolumnsError : Option Addr} {cdLowcolumnsError : ClassData} {osLowcolumnsError : Array (Option Value)}
  {CInvalidHeightError : Addr} {ocInvalidHeightError : Value} {odInvalidHeightError : Option Addr} {cdInvalidHeightError : ClassData} {osInvalidHeightError : Array (Option Value)}
  {CInvalidIndexError : Addr} {ocInvalidIndexError : Value} {odInvalidIndexError : Option Addr} {cdInvalidIndexError : ClassData} {osInvalidIndexError : Array (Option Value)}
  {CInvalidColumnsError : Addr} {ocInvalidColumnsError : Value} {odInvalidColumnsError : Option Addr} {cdInvalidColumnsError : ClassData} {osInvalidColumnsError : Array (Option Value)}
  {CInvalidFormatError : Addr} {ocInvalidFormatError : Value} {odInvalidFormatError : Option Addr} {cdInvalidFormatError : ClassData} {osInvalidFormatError : Array (Option Value)}
  {CFullError : Addr} {ocFullError : Value} {odFullError : Option Addr} {cdFullError : ClassData} {osFullError : Array (Option Value)}
  {CEmptyHistoryError : Addr} {ocEmptyHistoryError : Value} {odEmptyHistoryError : Option Addr} {cdEmptyHistoryError : ClassData} {osEmptyHistoryError : Array (Option Value)}
  {od0 an0 : Option Addr} {sl0 : Array (Option Value)} {oc0 kV0 dc0 pm0 cd0 ct0 : Value} {f0 : Addr}
  {od1 an1 : Option Addr} {sl1 : Array (Option Value)} {oc1 kV1 dc1 pm1 cd1 ct1 : Value} {f1 : Addr}
  {od2 an2 : Option Addr} {sl2 : Array (Option Value)} {oc2 kV2 dc2 pm2 cd2 ct2 : Value} {f2 : Addr}
  {od3 an3 : Option Addr} {sl3 : Array (Option Value)} {oc3 kV3 dc3 pm3 cd3 ct3 : Value} {f3 : Addr}
  {od4 an4 : Option Addr} {sl4 : Array (Option Value)} {oc4 kV4 dc4 pm4 cd4 ct4 : Value} {f4 : Addr}
  {od5 an5 : Option Addr} {sl5 : Array (Option Value)} {oc5 kV5 dc5 pm5 cd5 ct5 : Value} {f5 : Addr}
  {od6 an6 : Option Addr} {sl6 : Array (Option Value)} {oc6 kV6 dc6 pm6 cd6 ct6 : Value} {f6 : Addr}
  {od7 an7 : Option Addr} {sl7 : Array (Option Value)} {oc7 kV7 dc7 pm7 cd7 ct7 : Value} {f7 : Addr}
  {od8 an8 : Option Addr} {sl8 : Array (Option Value)} {oc8 kV8 dc8 pm8 cd8 ct8 : Value} {f8 : Addr}
  {od9 an9 : Option Addr} {sl9 : Array (Option Value)} {oc9 kV9 dc9 pm9 cd9 ct9 : Value} {f9 : Addr}
  {od10 an10 : Option Addr} {sl10 : Array (Option Value)} {oc10 kV10 dc10 pm10 cd10 ct10 : Value} {f10 : Addr}
  {od11 an11 : Option Addr} {sl11 : Array (Option Value)} {oc11 kV11 dc11 pm11 cd11 ct11 : Value} {f11 : Addr}
  {od12 an12 : Option Addr} {sl12 : Array (Option Value)} {oc12 kV12 dc12 pm12 cd12 ct12 : Value} {f12 : Addr}
  {od13 an13 : Option Addr} {sl13 : Array (Option Value)} {oc13 kV13 dc13 pm13 cd13 ct13 : Value} {f13 : Addr}
  {od14 an14 : Option Addr} {sl14 : Array (Option Value)} {oc14 kV14 dc14 pm14 cd14 ct14 : Value} {f14 : Addr}
  {od15 an15 : Option Addr} {sl15 : Array (Option Value)} {oc15 kV15 dc15 pm15 cd15 ct15 : Value} {f15 : Addr}
  {od16 an16 : Option Addr} {sl16 : Array (Option Value)} {oc16 kV16 dc16 pm16 cd16 ct16 : Value} {f16 : Addr}
  {od17 an17 : Option Addr} {sl17 : Array (Option Value)} {oc17 kV17 dc17 pm17 cd17 ct17 : Value} {f17 : Addr}
  {od18 an18 : Option Addr} {sl18 : Array (Option Value)} {oc18 kV18 dc18 pm18 cd18 ct18 : Value} {f18 : Addr}
  {od19 an19 : Option Addr} {sl19 : Array (Option Value)} {oc19 kV19 dc19 pm19 cd19 ct19 : Value} {f19 : Addr}
  {od20 an20 : Option Addr} {sl20 : Array (Option Value)} {oc20 kV20 dc20 pm20 cd20 ct20 : Value} {f20 : Addr}
  {od21 an21 : Option Addr} {sl21 : Array (Option Value)} {oc21 kV21 dc21 pm21 cd21 ct21 : Value} {f21 : Addr}
  {od22 an22 : Option Addr} {sl22 : Array (Option Value)} {oc22 kV22 dc22 pm22 cd22 ct22 : Value} {f22 : Addr}
  {od23 an23 : Option Addr} {sl23 : Array (Option Value)} {oc23 kV23 dc23 pm23 cd23 ct23 : Value} {f23 : Addr}
  {od24 an24 : Option Addr} {sl24 : Array (Option Value)} {oc24 kV24 dc24 pm24 cd24 ct24 : Value} {f24 : Addr}
  {od25 an25 : Option Addr} {sl25 : Array (Option Value)} {oc25 kV25 dc25 pm25 cd25 ct25 : Value} {f25 : Addr}
  {od26 an26 : Option Addr} {sl26 : Array (Option Value)} {oc26 kV26 dc26 pm26 cd26 ct26 : Value} {f26 : Addr}
  {od27 an27 : Option Addr} {sl27 : Array (Option Value)} {oc27 kV27 dc27 pm27 cd27 ct27 : Value} {f27 : Addr}
  {od28 an28 : Option Addr} {sl28 : Array (Option Value)} {oc28 kV28 dc28 pm28 cd28 ct28 : Value} {f28 : Addr}
  {C_Wall fi_Wall : Addr}
  {tm_Wall_MOST : Tok}
  {odfi_Wall anfi_Wall : Option Addr} {slfi_Wall : Array (Option Value)} {ocfi_Wall kVfi_Wall dcfi_Wall pmfi_Wall cdfi_Wall ctfi_Wall : Value}
  {a_Wall_places : Addr}
  {odm_Wall_places anm_Wall_places : Option Addr} {slm_Wall_places : Array (Option Value)} {ocm_Wall_places kVm_Wall_places dcm_Wall_places pmm_Wall_places cdm_Wall_places ctm_Wall_places : Value}
  {a_Wall_bottoms : Addr}
  {odm_Wall_bottoms anm_Wall_bottoms : Option Addr} {slm_Wall_bottoms : Array (Option Value)} {ocm_Wall_bottoms kVm_Wall_bottoms dcm_Wall_bottoms pmm_Wall_bottoms cdm_Wall_bottoms ctm_Wall_bottoms : Value}
  {a_Wall_check_room : Addr}
  {odm_Wall_check_room anm_Wall_check_room : Option Addr} {slm_Wall_check_room : Array (Option Value)} {ocm_Wall_check_room kVm_Wall_check_room dcm_Wall_check_room pmm_Wall_check_room cdm_Wall_check_room ctm_Wall_check_room : Value}
  {a_Wall_change : Addr}
  {odm_Wall_change anm_Wall_change : Option Addr} {slm_Wall_change : Array (Option Value)} {ocm_Wall_change kVm_Wall_change dcm_Wall_change pmm_Wall_change cdm_Wall_change ctm_Wall_change : Value}
  {a_Wall_put_in : Addr}
  {odm_Wall_put_in anm_Wall_put_in : Option Addr} {slm_Wall_put_in : Array (Option Value)} {ocm_Wall_put_in kVm_Wall_put_in dcm_Wall_put_in pmm_Wall_put_in cdm_Wall_put_in ctm_Wall_put_in : Value}
  {a_Wall_take_out : Addr}
  {odm_Wall_take_out anm_Wall_take_out : Option Addr} {slm_Wall_take_out : Array (Option Value)} {ocm_Wall_take_out kVm_Wall_take_out dcm_Wall_take_out pmm_Wall_take_out cdm_Wall_take_out ctm_Wall_take_out : Value}
  {a_Wall_shift : Addr}
  {odm_Wall_shift anm_Wall_shift : Option Addr} {slm_Wall_shift : Array (Option Value)} {ocm_Wall_shift kVm_Wall_shift dcm_Wall_shift pmm_Wall_shift cdm_Wall_shift ctm_Wall_shift : Value}
  {a_Wall_stretch : Addr}
  {odm_Wall_stretch anm_Wall_stretch : Option Addr} {slm_Wall_stretch : Array (Option Value)} {ocm_Wall_stretch kVm_Wall_stretch dcm_Wall_stretch pmm_Wall_stretch cdm_Wall_stretch ctm_Wall_stretch : Value}
  {a_Wall_resize : Addr}
  {odm_Wall_resize anm_Wall_resize : Option Addr} {slm_Wall_resize : Array (Option Value)} {ocm_Wall_resize kVm_Wall_resize dcm_Wall_resize pmm_Wall_resize cdm_Wall_resize ctm_Wall_resize : Value}
  {a_Wall_undo : Addr}
  {odm_Wall_undo anm_Wall_undo : Option Addr} {slm_Wall_undo : Array (Option Value)} {ocm_Wall_undo kVm_Wall_undo dcm_Wall_undo pmm_Wall_undo cdm_Wall_undo ctm_Wall_undo : Value}
  {a_Wall_add : Addr}
  {odm_Wall_add anm_Wall_add : Option Addr} {slm_Wall_add : Array (Option Value)} {ocm_Wall_add kVm_Wall_add dcm_Wall_add pmm_Wall_add cdm_Wall_add ctm_Wall_add : Value}
  {a_Wall_tried : Addr}
  {odm_Wall_tried anm_Wall_tried : Option Addr} {slm_Wall_tried : Array (Option Value)} {ocm_Wall_tried kVm_Wall_tried dcm_Wall_tried pmm_Wall_tried cdm_Wall_tried ctm_Wall_tried : Value}
  {a_Wall_len : Addr}
  {odm_Wall_len anm_Wall_len : Option Addr} {slm_Wall_len : Array (Option Value)} {ocm_Wall_len kVm_Wall_len dcm_Wall_len pmm_Wall_len cdm_Wall_len ctm_Wall_len : Value}
  {q_Wall_heights w_Wall_heights : Addr} {rw_Wall_heights : List Value}
  {odw_Wall_heights anw_Wall_heights : Option Addr} {slw_Wall_heights : Array (Option Value)} {ocw_Wall_heights kVw_Wall_heights dcw_Wall_heights pmw_Wall_heights cdw_Wall_heights ctw_Wall_heights : Value}
  {q_Wall_card_columns w_Wall_card_columns : Addr} {rw_Wall_card_columns : List Value}
  {odw_Wall_card_columns anw_Wall_card_columns : Option Addr} {slw_Wall_card_columns : Array (Option Value)} {ocw_Wall_card_columns kVw_Wall_card_columns dcw_Wall_card_columns pmw_Wall_card_columns cdw_Wall_card_columns ctw_Wall_card_columns : Value}
  {q_Wall_tops w_Wall_tops : Addr} {rw_Wall_tops : List Value}
  {odw_Wall_tops anw_Wall_tops : Option Addr} {slw_Wall_tops : Array (Option Value)} {ocw_Wall_tops kVw_Wall_tops dcw_Wall_tops pmw_Wall_tops cdw_Wall_tops ctw_Wall_tops : Value}
  {q_Wall_end w_Wall_end : Addr} {rw_Wall_end : List Value}
  {odw_Wall_end anw_Wall_end : Option Addr} {slw_Wall_end : Array (Option Value)} {ocw_Wall_end kVw_Wall_end dcw_Wall_end pmw_Wall_end cdw_Wall_end ctw_Wall_end : Value}
  {q_Wall_width w_Wall_width : Addr} {rw_Wall_width : List Value}
  {odw_Wall_width anw_Wall_width : Option Addr} {slw_Wall_width : Array (Option Value)} {ocw_Wall_width kVw_Wall_width dcw_Wall_width pmw_Wall_width cdw_Wall_width ctw_Wall_width : Value}
  (gLowcolumnsError : PySem.W.nsIn K mainGlobals "LowcolumnsError" = some (some (.ref CLowcolumnsError)))
  (gInvalidHeightError : PySem.W.nsIn K mainGlobals "InvalidHeightError" = some (some (.ref CInvalidHeightError)))
  (gInvalidIndexError : PySem.W.nsIn K mainGlobals "InvalidIndexError" = some (some (.ref CInvalidIndexError)))
  (gInvalidColumnsError : PySem.W.nsIn K mainGlobals "InvalidColumnsError" = some (some (.ref CInvalidColumnsError)))
  (gInvalidFormatError : PySem.W.nsIn K mainGlobals "InvalidFormatError" = some (some (.ref CInvalidFormatError)))
  (gFullError : PySem.W.nsIn K mainGlobals "FullError" = some (some (.ref CFullError)))
  (gEmptyHistoryError : PySem.W.nsIn K mainGlobals "EmptyHistoryError" = some (some (.ref CEmptyHistoryError)))
  (mLowcolumnsError : K.lookup CLowcolumnsError = some ⟨ocLowcolumnsError, odLowcolumnsError, .cls cdLowcolumnsError, osLowcolumnsError⟩) (rLowcolumnsError : cdLowcolumnsError.mro = [.ref CLowcolumnsError, .type "ValueError", .type "Exception", .type "BaseException", .type "object"])
  (xLowcolumnsError : PySem.W.excIn K CLowcolumnsError [.type "ValueError", .type "Exception", .type "BaseException", .type "object"] "ValueError.__new__" = true)
  (kLowcolumnsError : PySem.W.keepIn K (.ref CLowcolumnsError) = true) (tLowcolumnsError : PySem.W.typeIn K (.ref CLowcolumnsError) = some (.type "type"))
  (caLowcolumnsError : PySem.W.findIn K (.ref CLowcolumnsError) "__getattribute__" = some (some (.builtin "BaseException.__getattribute__")))
  (cbLowcolumnsError : PySem.W.findIn K (.ref CLowcolumnsError) "__getattr__" = some none)
  (ccLowcolumnsError : PySem.W.subIn K (.ref CLowcolumnsError) (.type "BaseException") = some true)
  (ckLowcolumnsError : PySem.W.hasDictIn K CLowcolumnsError = true)
  (ceLowcolumnsError : PySem.W.findIn K (.ref CLowcolumnsError) "__class__" = some (some (.builtin "object.__class__")))
  (chLowcolumnsError : PySem.W.mroIn K CLowcolumnsError (.type "object") = some true)
  (mInvalidHeightError : K.lookup CInvalidHeightError = some ⟨ocInvalidHeightError, odInvalidHeightError, .cls cdInvalidHeightError, osInvalidHeightError⟩) (rInvalidHeightError : cdInvalidHeightError.mro = [.ref CInvalidHeightError, .ref CLowcolumnsError, .type "ValueError", .type "Exception", .type "BaseException", .type "object"])
  (xInvalidHeightError : PySem.W.excIn K CInvalidHeightError [.type "ValueError", .type "Exception", .type "BaseException", .type "object"] "ValueError.__new__" = true)
  (kInvalidHeightError : PySem.W.keepIn K (.ref CInvalidHeightError) = true) (tInvalidHeightError : PySem.W.typeIn K (.ref CInvalidHeightError) = some (.type "type"))
  (caInvalidHeightError : PySem.W.findIn K (.ref CInvalidHeightError) "__getattribute__" = some (some (.builtin "BaseException.__getattribute__")))
  (cbInvalidHeightError : PySem.W.findIn K (.ref CInvalidHeightError) "__getattr__" = some none)
  (ccInvalidHeightError : PySem.W.subIn K (.ref CInvalidHeightError) (.type "BaseException") = some true)
  (ckInvalidHeightError : PySem.W.hasDictIn K CInvalidHeightError = true)
  (ceInvalidHeightError : PySem.W.findIn K (.ref CInvalidHeightError) "__class__" = some (some (.builtin "object.__class__")))
  (chInvalidHeightError : PySem.W.mroIn K CInvalidHeightError (.type "object") = some true)
  (mInvalidIndexError : K.lookup CInvalidIndexError = some ⟨ocInvalidIndexError, odInvalidIndexError, .cls cdInvalidIndexError, osInvalidIndexError⟩) (rInvalidIndexError : cdInvalidIndexError.mro = [.ref CInvalidIndexError, .ref CLowcolumnsError, .type "ValueError", .type "Exception", .type "BaseException", .type "object"])
  (xInvalidIndexError : PySem.W.excIn K CInvalidIndexError [.type "ValueError", .type "Exception", .type "BaseException", .type "object"] "ValueError.__new__" = true)
  (kInvalidIndexError : PySem.W.keepIn K (.ref CInvalidIndexError) = true) (tInvalidIndexError : PySem.W.typeIn K (.ref CInvalidIndexError) = some (.type "type"))
  (caInvalidIndexError : PySem.W.findIn K (.ref CInvalidIndexError) "__getattribute__" = some (some (.builtin "BaseException.__getattribute__")))
  (cbInvalidIndexError : PySem.W.findIn K (.ref CInvalidIndexError) "__getattr__" = some none)
  (ccInvalidIndexError : PySem.W.subIn K (.ref CInvalidIndexError) (.type "BaseException") = some true)
  (ckInvalidIndexError : PySem.W.hasDictIn K CInvalidIndexError = true)
  (ceInvalidIndexError : PySem.W.findIn K (.ref CInvalidIndexError) "__class__" = some (some (.builtin "object.__class__")))
  (chInvalidIndexError : PySem.W.mroIn K CInvalidIndexError (.type "object") = some true)
  (mInvalidColumnsError : K.lookup CInvalidColumnsError = some ⟨ocInvalidColumnsError, odInvalidColumnsError, .cls cdInvalidColumnsError, osInvalidColumnsError⟩) (rInvalidColumnsError : cdInvalidColumnsError.mro = [.ref CInvalidColumnsError, .ref CLowcolumnsError, .type "ValueError", .type "Exception", .type "BaseException", .type "object"])
  (xInvalidColumnsError : PySem.W.excIn K CInvalidColumnsError [.type "ValueError", .type "Exception", .type "BaseException", .type "object"] "ValueError.__new__" = true)
  (kInvalidColumnsError : PySem.W.keepIn K (.ref CInvalidColumnsError) = true) (tInvalidColumnsError : PySem.W.typeIn K (.ref CInvalidColumnsError) = some (.type "type"))
  (caInvalidColumnsError : PySem.W.findIn K (.ref CInvalidColumnsError) "__getattribute__" = some (some (.builtin "BaseException.__getattribute__")))
  (cbInvalidColumnsError : PySem.W.findIn K (.ref CInvalidColumnsError) "__getattr__" = some none)
  (ccInvalidColumnsError : PySem.W.subIn K (.ref CInvalidColumnsError) (.type "BaseException") = some true)
  (ckInvalidColumnsError : PySem.W.hasDictIn K CInvalidColumnsError = true)
  (ceInvalidColumnsError : PySem.W.findIn K (.ref CInvalidColumnsError) "__class__" = some (some (.builtin "object.__class__")))
  (chInvalidColumnsError : PySem.W.mroIn K CInvalidColumnsError (.type "object") = some true)
  (mInvalidFormatError : K.lookup CInvalidFormatError = some ⟨ocInvalidFormatError, odInvalidFormatError, .cls cdInvalidFormatError, osInvalidFormatError⟩) (rInvalidFormatError : cdInvalidFormatError.mro = [.ref CInvalidFormatError, .ref CLowcolumnsError, .type "ValueError", .type "Exception", .type "BaseException", .type "object"])
  (xInvalidFormatError : PySem.W.excIn K CInvalidFormatError [.type "ValueError", .type "Exception", .type "BaseException", .type "object"] "ValueError.__new__" = true)
  (kInvalidFormatError : PySem.W.keepIn K (.ref CInvalidFormatError) = true) (tInvalidFormatError : PySem.W.typeIn K (.ref CInvalidFormatError) = some (.type "type"))
  (caInvalidFormatError : PySem.W.findIn K (.ref CInvalidFormatError) "__getattribute__" = some (some (.builtin "BaseException.__getattribute__")))
  (cbInvalidFormatError : PySem.W.findIn K (.ref CInvalidFormatError) "__getattr__" = some none)
  (ccInvalidFormatError : PySem.W.subIn K (.ref CInvalidFormatError) (.type "BaseException") = some true)
  (ckInvalidFormatError : PySem.W.hasDictIn K CInvalidFormatError = true)
  (ceInvalidFormatError : PySem.W.findIn K (.ref CInvalidFormatError) "__class__" = some (some (.builtin "object.__class__")))
  (chInvalidFormatError : PySem.W.mroIn K CInvalidFormatError (.type "object") = some true)
  (mFullError : K.lookup CFullError = some ⟨ocFullError, odFullError, .cls cdFullError, osFullError⟩) (rFullError : cdFullError.mro = [.ref CFullError, .ref CLowcolumnsError, .type "ValueError", .type "Exception", .type "BaseException", .type "object"])
  (xFullError : PySem.W.excIn K CFullError [.type "ValueError", .type "Exception", .type "BaseException", .type "object"] "ValueError.__new__" = true)
  (kFullError : PySem.W.keepIn K (.ref CFullError) = true) (tFullError : PySem.W.typeIn K (.ref CFullError) = some (.type "type"))
  (caFullError : PySem.W.findIn K (.ref CFullError) "__getattribute__" = some (some (.builtin "BaseException.__getattribute__")))
  (cbFullError : PySem.W.findIn K (.ref CFullError) "__getattr__" = some none)
  (ccFullError : PySem.W.subIn K (.ref CFullError) (.type "BaseException") = some true)
  (ckFullError : PySem.W.hasDictIn K CFullError = true)
  (ceFullError : PySem.W.findIn K (.ref CFullError) "__class__" = some (some (.builtin "object.__class__")))
  (chFullError : PySem.W.mroIn K CFullError (.type "object") = some true)
  (mEmptyHistoryError : K.lookup CEmptyHistoryError = some ⟨ocEmptyHistoryError, odEmptyHistoryError, .cls cdEmptyHistoryError, osEmptyHistoryError⟩) (rEmptyHistoryError : cdEmptyHistoryError.mro = [.ref CEmptyHistoryError, .ref CLowcolumnsError, .type "ValueError", .type "Exception", .type "BaseException", .type "object"])
  (xEmptyHistoryError : PySem.W.excIn K CEmptyHistoryError [.type "ValueError", .type "Exception", .type "BaseException", .type "object"] "ValueError.__new__" = true)
  (kEmptyHistoryError : PySem.W.keepIn K (.ref CEmptyHistoryError) = true) (tEmptyHistoryError : PySem.W.typeIn K (.ref CEmptyHistoryError) = some (.type "type"))
  (caEmptyHistoryError : PySem.W.findIn K (.ref CEmptyHistoryError) "__getattribute__" = some (some (.builtin "BaseException.__getattribute__")))
  (cbEmptyHistoryError : PySem.W.findIn K (.ref CEmptyHistoryError) "__getattr__" = some none)
  (ccEmptyHistoryError : PySem.W.subIn K (.ref CEmptyHistoryError) (.type "BaseException") = some true)
  (ckEmptyHistoryError : PySem.W.hasDictIn K CEmptyHistoryError = true)
  (ceEmptyHistoryError : PySem.W.findIn K (.ref CEmptyHistoryError) "__class__" = some (some (.builtin "object.__class__")))
  (chEmptyHistoryError : PySem.W.mroIn K CEmptyHistoryError (.type "object") = some true)
  (cf : PySem.W.specialIn K (.builtin "object.__class__") "__get__" = some (some (.builtin "getset_descriptor.__get__")))
  (cg : PySem.W.takesIn K (.builtin "object.__class__") = some true)
  (ndc : [CEmptyHistoryError, CFullError, CInvalidColumnsError, CInvalidFormatError, CInvalidHeightError, CInvalidIndexError, CLowcolumnsError].Nodup)
  (a0 : PySem.W.nsIn K mainGlobals "is_integer_within" = some (some (.ref f0)))
  (l0 : K.lookup f0 = some ⟨oc0, od0, .func (PySem.W.fnOf "is_integer_within" "is_integer_within" (defArgs s_is_integer_within) (defBody s_is_integer_within) (defScope s_is_integer_within) .none kV0 dc0 pm0 an0 cd0 ct0), sl0⟩)
  (c0 : PySem.W.codeIn K cd0 "is_integer_within" = true) (k0 : PySem.W.keepIn K (.ref f0) = true)
  (a1 : PySem.W.nsIn K mainGlobals "is_one_height" = some (some (.ref f1)))
  (l1 : K.lookup f1 = some ⟨oc1, od1, .func (PySem.W.fnOf "is_one_height" "is_one_height" (defArgs s_is_one_height) (defBody s_is_one_height) (defScope s_is_one_height) .none kV1 dc1 pm1 an1 cd1 ct1), sl1⟩)
  (c1 : PySem.W.codeIn K cd1 "is_one_height" = true) (k1 : PySem.W.keepIn K (.ref f1) = true)
  (a2 : PySem.W.nsIn K mainGlobals "check_columns" = some (some (.ref f2)))
  (l2 : K.lookup f2 = some ⟨oc2, od2, .func (PySem.W.fnOf "check_columns" "check_columns" (defArgs s_check_columns) (defBody s_check_columns) (defScope s_check_columns) .none kV2 dc2 pm2 an2 cd2 ct2), sl2⟩)
  (c2 : PySem.W.codeIn K cd2 "check_columns" = true) (k2 : PySem.W.keepIn K (.ref f2) = true)
  (a3 : PySem.W.nsIn K mainGlobals "check_height" = some (some (.ref f3)))
  (l3 : K.lookup f3 = some ⟨oc3, od3, .func (PySem.W.fnOf "check_height" "check_height" (defArgs s_check_height) (defBody s_check_height) (defScope s_check_height) .none kV3 dc3 pm3 an3 cd3 ct3), sl3⟩)
  (c3 : PySem.W.codeIn K cd3 "check_height" = true) (k3 : PySem.W.keepIn K (.ref f3) = true)
  (a4 : PySem.W.nsIn K mainGlobals "check_index" = some (some (.ref f4)))
  (l4 : K.lookup f4 = some ⟨oc4, od4, .func (PySem.W.fnOf "check_index" "check_index" (defArgs s_check_index) (defBody s_check_index) (defScope s_check_index) .none kV4 dc4 pm4 an4 cd4 ct4), sl4⟩)
  (c4 : PySem.W.codeIn K cd4 "check_index" = true) (k4 : PySem.W.keepIn K (.ref f4) = true)
  (a5 : PySem.W.nsIn K mainGlobals "lowest_column" = some (some (.ref f5)))
  (l5 : K.lookup f5 = some ⟨oc5, od5, .func (PySem.W.fnOf "lowest_column" "lowest_column" (defArgs s_lowest_column) (defBody s_lowest_column) (defScope s_lowest_column) .none kV5 dc5 pm5 an5 cd5 ct5), sl5⟩)
  (c5 : PySem.W.codeIn K cd5 "lowest_column" = true) (k5 : PySem.W.keepIn K (.ref f5) = true)
  (a6 : PySem.W.nsIn K mainGlobals "lay_cards" = some (some (.ref f6)))
  (l6 : K.lookup f6 = some ⟨oc6, od6, .func (PySem.W.fnOf "lay_cards" "lay_cards" (defArgs s_lay_cards) (defBody s_lay_cards) (defScope s_lay_cards) .none kV6 dc6 pm6 an6 cd6 ct6), sl6⟩)
  (c6 : PySem.W.codeIn K cd6 "lay_cards" = true) (k6 : PySem.W.keepIn K (.ref f6) = true)
  (a7 : PySem.W.nsIn K mainGlobals "with_item" = some (some (.ref f7)))
  (l7 : K.lookup f7 = some ⟨oc7, od7, .func (PySem.W.fnOf "with_item" "with_item" (defArgs s_with_item) (defBody s_with_item) (defScope s_with_item) .none kV7 dc7 pm7 an7 cd7 ct7), sl7⟩)
  (c7 : PySem.W.codeIn K cd7 "with_item" = true) (k7 : PySem.W.keepIn K (.ref f7) = true)
  (a8 : PySem.W.nsIn K mainGlobals "without_item" = some (some (.ref f8)))
  (l8 : K.lookup f8 = some ⟨oc8, od8, .func (PySem.W.fnOf "without_item" "without_item" (defArgs s_without_item) (defBody s_without_item) (defScope s_without_item) .none kV8 dc8 pm8 an8 cd8 ct8), sl8⟩)
  (c8 : PySem.W.codeIn K cd8 "without_item" = true) (k8 : PySem.W.keepIn K (.ref f8) = true)
  (a9 : PySem.W.nsIn K mainGlobals "with_moved_item" = some (some (.ref f9)))
  (l9 : K.lookup f9 = some ⟨oc9, od9, .func (PySem.W.fnOf "with_moved_item" "with_moved_item" (defArgs s_with_moved_item) (defBody s_with_moved_item) (defScope s_with_moved_item) .none kV9 dc9 pm9 an9 cd9 ct9), sl9⟩)
  (c9 : PySem.W.codeIn K cd9 "with_moved_item" = true) (k9 : PySem.W.keepIn K (.ref f9) = true)
  (a10 : PySem.W.nsIn K mainGlobals "with_other_item" = some (some (.ref f10)))
  (l10 : K.lookup f10 = some ⟨oc10, od10, .func (PySem.W.fnOf "with_other_item" "with_other_item" (defArgs s_with_other_item) (defBody s_with_other_item) (defScope s_with_other_item) .none kV10 dc10 pm10 an10 cd10 ct10), sl10⟩)
  (c10 : PySem.W.codeIn K cd10 "with_other_item" = true) (k10 : PySem.W.keepIn K (.ref f10) = true)
  (a11 : PySem.W.nsIn K mainGlobals "_law_source" = some (some (.ref f11)))
  (l11 : K.lookup f11 = some ⟨oc11, od11, .func (PySem.W.fnOf "_law_source" "_law_source" (defArgs s_law_source) (defBody s_law_source) (defScope s_law_source) .none kV11 dc11 pm11 an11 cd11 ct11), sl11⟩)
  (c11 : PySem.W.codeIn K cd11 "_law_source" = true) (k11 : PySem.W.keepIn K (.ref f11) = true)
  (a12 : PySem.W.nsIn K mainGlobals "_law_draw" = some (some (.ref f12)))
  (l12 : K.lookup f12 = some ⟨oc12, od12, .func (PySem.W.fnOf "_law_draw" "_law_draw" (defArgs s_law_draw) (defBody s_law_draw) (defScope s_law_draw) .none kV12 dc12 pm12 an12 cd12 ct12), sl12⟩)
  (c12 : PySem.W.codeIn K cd12 "_law_draw" = true) (k12 : PySem.W.keepIn K (.ref f12) = true)
  (a13 : PySem.W.nsIn K mainGlobals "_law_cells" = some (some (.ref f13)))
  (l13 : K.lookup f13 = some ⟨oc13, od13, .func (PySem.W.fnOf "_law_cells" "_law_cells" (defArgs s_law_cells) (defBody s_law_cells) (defScope s_law_cells) .none kV13 dc13 pm13 an13 cd13 ct13), sl13⟩)
  (c13 : PySem.W.codeIn K cd13 "_law_cells" = true) (k13 : PySem.W.keepIn K (.ref f13) = true)
  (a14 : PySem.W.nsIn K mainGlobals "_law_same" = some (some (.ref f14)))
  (l14 : K.lookup f14 = some ⟨oc14, od14, .func (PySem.W.fnOf "_law_same" "_law_same" (defArgs s_law_same) (defBody s_law_same) (defScope s_law_same) .none kV14 dc14 pm14 an14 cd14 ct14), sl14⟩)
  (c14 : PySem.W.codeIn K cd14 "_law_same" = true) (k14 : PySem.W.keepIn K (.ref f14) = true)
  (a15 : PySem.W.nsIn K mainGlobals "_law_laid" = some (some (.ref f15)))
  (l15 : K.lookup f15 = some ⟨oc15, od15, .func (PySem.W.fnOf "_law_laid" "_law_laid" (defArgs s_law_laid) (defBody s_law_laid) (defScope s_law_laid) .none kV15 dc15 pm15 an15 cd15 ct15), sl15⟩)
  (c15 : PySem.W.codeIn K cd15 "_law_laid" = true) (k15 : PySem.W.keepIn K (.ref f15) = true)
  (a16 : PySem.W.nsIn K mainGlobals "_law_due" = some (some (.ref f16)))
  (l16 : K.lookup f16 = some ⟨oc16, od16, .func (PySem.W.fnOf "_law_due" "_law_due" (defArgs s_law_due) (defBody s_law_due) (defScope s_law_due) .none kV16 dc16 pm16 an16 cd16 ct16), sl16⟩)
  (c16 : PySem.W.codeIn K cd16 "_law_due" = true) (k16 : PySem.W.keepIn K (.ref f16) = true)
  (a17 : PySem.W.nsIn K mainGlobals "_law_seen" = some (some (.ref f17)))
  (l17 : K.lookup f17 = some ⟨oc17, od17, .func (PySem.W.fnOf "_law_seen" "_law_seen" (defArgs s_law_seen) (defBody s_law_seen) (defScope s_law_seen) .none kV17 dc17 pm17 an17 cd17 ct17), sl17⟩)
  (c17 : PySem.W.codeIn K cd17 "_law_seen" = true) (k17 : PySem.W.keepIn K (.ref f17) = true)
  (a18 : PySem.W.nsIn K mainGlobals "_law_cards" = some (some (.ref f18)))
  (l18 : K.lookup f18 = some ⟨oc18, od18, .func (PySem.W.fnOf "_law_cards" "_law_cards" (defArgs s_law_cards) (defBody s_law_cards) (defScope s_law_cards) .none kV18 dc18 pm18 an18 cd18 ct18), sl18⟩)
  (c18 : PySem.W.codeIn K cd18 "_law_cards" = true) (k18 : PySem.W.keepIn K (.ref f18) = true)
  (a19 : PySem.W.nsIn K mainGlobals "_law_size" = some (some (.ref f19)))
  (l19 : K.lookup f19 = some ⟨oc19, od19, .func (PySem.W.fnOf "_law_size" "_law_size" (defArgs s_law_size) (defBody s_law_size) (defScope s_law_size) .none kV19 dc19 pm19 an19 cd19 ct19), sl19⟩)
  (c19 : PySem.W.codeIn K cd19 "_law_size" = true) (k19 : PySem.W.keepIn K (.ref f19) = true)
  (a20 : PySem.W.nsIn K mainGlobals "_law_add" = some (some (.ref f20)))
  (l20 : K.lookup f20 = some ⟨oc20, od20, .func (PySem.W.fnOf "_law_add" "_law_add" (defArgs s_law_add) (defBody s_law_add) (defScope s_law_add) .none kV20 dc20 pm20 an20 cd20 ct20), sl20⟩)
  (c20 : PySem.W.codeIn K cd20 "_law_add" = true) (k20 : PySem.W.keepIn K (.ref f20) = true)
  (a21 : PySem.W.nsIn K mainGlobals "_law_deed" = some (some (.ref f21)))
  (l21 : K.lookup f21 = some ⟨oc21, od21, .func (PySem.W.fnOf "_law_deed" "_law_deed" (defArgs s_law_deed) (defBody s_law_deed) (defScope s_law_deed) .none kV21 dc21 pm21 an21 cd21 ct21), sl21⟩)
  (c21 : PySem.W.codeIn K cd21 "_law_deed" = true) (k21 : PySem.W.keepIn K (.ref f21) = true)
  (a22 : PySem.W.nsIn K mainGlobals "_law_after" = some (some (.ref f22)))
  (l22 : K.lookup f22 = some ⟨oc22, od22, .func (PySem.W.fnOf "_law_after" "_law_after" (defArgs s_law_after) (defBody s_law_after) (defScope s_law_after) .none kV22 dc22 pm22 an22 cd22 ct22), sl22⟩)
  (c22 : PySem.W.codeIn K cd22 "_law_after" = true) (k22 : PySem.W.keepIn K (.ref f22) = true)
  (a23 : PySem.W.nsIn K mainGlobals "_law_do" = some (some (.ref f23)))
  (l23 : K.lookup f23 = some ⟨oc23, od23, .func (PySem.W.fnOf "_law_do" "_law_do" (defArgs s_law_do) (defBody s_law_do) (defScope s_law_do) .none kV23 dc23 pm23 an23 cd23 ct23), sl23⟩)
  (c23 : PySem.W.codeIn K cd23 "_law_do" = true) (k23 : PySem.W.keepIn K (.ref f23) = true)
  (a24 : PySem.W.nsIn K mainGlobals "_law_both" = some (some (.ref f24)))
  (l24 : K.lookup f24 = some ⟨oc24, od24, .func (PySem.W.fnOf "_law_both" "_law_both" (defArgs s_law_both) (defBody s_law_both) (defScope s_law_both) .none kV24 dc24 pm24 an24 cd24 ct24), sl24⟩)
  (c24 : PySem.W.codeIn K cd24 "_law_both" = true) (k24 : PySem.W.keepIn K (.ref f24) = true)
  (a25 : PySem.W.nsIn K mainGlobals "_law_undo_right" = some (some (.ref f25)))
  (l25 : K.lookup f25 = some ⟨oc25, od25, .func (PySem.W.fnOf "_law_undo_right" "_law_undo_right" (defArgs s_law_undo_right) (defBody s_law_undo_right) (defScope s_law_undo_right) .none kV25 dc25 pm25 an25 cd25 ct25), sl25⟩)
  (c25 : PySem.W.codeIn K cd25 "_law_undo_right" = true) (k25 : PySem.W.keepIn K (.ref f25) = true)
  (a26 : PySem.W.nsIn K mainGlobals "_law_call_right" = some (some (.ref f26)))
  (l26 : K.lookup f26 = some ⟨oc26, od26, .func (PySem.W.fnOf "_law_call_right" "_law_call_right" (defArgs s_law_call_right) (defBody s_law_call_right) (defScope s_law_call_right) .none kV26 dc26 pm26 an26 cd26 ct26), sl26⟩)
  (c26 : PySem.W.codeIn K cd26 "_law_call_right" = true) (k26 : PySem.W.keepIn K (.ref f26) = true)
  (a27 : PySem.W.nsIn K mainGlobals "_law_holds" = some (some (.ref f27)))
  (l27 : K.lookup f27 = some ⟨oc27, od27, .func (PySem.W.fnOf "_law_holds" "_law_holds" (defArgs s_law_holds) (defBody s_law_holds) (defScope s_law_holds) .none kV27 dc27 pm27 an27 cd27 ct27), sl27⟩)
  (c27 : PySem.W.codeIn K cd27 "_law_holds" = true) (k27 : PySem.W.keepIn K (.ref f27) = true)
  (a28 : PySem.W.nsIn K mainGlobals "law" = some (some (.ref f28)))
  (l28 : K.lookup f28 = some ⟨oc28, od28, .func (PySem.W.fnOf "law" "law" (defArgs s_law) (defBody s_law) (defScope s_law) .none kV28 dc28 pm28 an28 cd28 ct28), sl28⟩)
  (c28 : PySem.W.codeIn K cd28 "law" = true) (k28 : PySem.W.keepIn K (.ref f28) = true)
  (z_isinstance : PySem.W.nsIn K mainGlobals "isinstance" = some none)
  (z_bool : PySem.W.nsIn K mainGlobals "bool" = some none)
  (z_int : PySem.W.nsIn K mainGlobals "int" = some none)
  (z_min : PySem.W.nsIn K mainGlobals "min" = some none)
  (z_len : PySem.W.nsIn K mainGlobals "len" = some none)
  (z_list : PySem.W.nsIn K mainGlobals "list" = some none)
  (z_max : PySem.W.nsIn K mainGlobals "max" = some none)
  (z_tuple : PySem.W.nsIn K mainGlobals "tuple" = some none)
  (z_all : PySem.W.nsIn K mainGlobals "all" = some none)
  (z_zip : PySem.W.nsIn K mainGlobals "zip" = some none)
  (z_range : PySem.W.nsIn K mainGlobals "range" = some none)
  (z_enumerate : PySem.W.nsIn K mainGlobals "enumerate" = some none)
  {t_MOST_HEIGHT : Tok} (c_MOST_HEIGHT : PySem.W.nsIn K mainGlobals "MOST_HEIGHT" = some (some (.int (1000000000000000000000000000000) t_MOST_HEIGHT)))
  {t_MOST_COLUMNS : Tok} (c_MOST_COLUMNS : PySem.W.nsIn K mainGlobals "MOST_COLUMNS" = some (some (.int (30) t_MOST_COLUMNS)))
  (gg_Wall : PySem.W.nsIn K mainGlobals "Wall" = some (some (.ref C_Wall)))
  (ca_Wall : PySem.W.plainGet K C_Wall Str.empty = true)
  (cb_Wall : PySem.W.hasDictIn K C_Wall = true)
  (cc_Wall : PySem.W.plainOver K C_Wall = true)
  (cd_Wall : PySem.W.findIn K (.ref C_Wall) "__setattr__" = some (some (.builtin "object.__setattr__")))
  (ra_Wall : PySem.W.readsIn K C_Wall (.type "type") = true)
  (rb_Wall : PySem.W.specialIn K (.ref C_Wall) "__getattribute__" = some (some (.builtin "type.__getattribute__")))
  (ma_Wall : PySem.W.makesIn K C_Wall = true)
  (mb_Wall : PySem.W.findIn K (.ref C_Wall) "__init__" = some (some (.ref fi_Wall)))
  (mc_Wall : PySem.W.isFn K (.ref fi_Wall) = true)
  (md_Wall : PySem.W.keepIn K (.ref C_Wall) = true)
  (cv_Wall_MOST : PySem.W.findCls K (.ref C_Wall) (.type "type") "MOST" = some (.val (.int 200 tm_Wall_MOST)))
  (lfi_Wall : K.lookup fi_Wall = some ⟨ocfi_Wall, odfi_Wall, .func (PySem.W.fnOf "__init__" "Wall.__init__" (defArgs s_Wall_init) (defBody s_Wall_init) (defScope s_Wall_init) .none kVfi_Wall dcfi_Wall pmfi_Wall anfi_Wall cdfi_Wall ctfi_Wall), slfi_Wall⟩)
  (cfi_Wall : PySem.W.codeIn K cdfi_Wall "Wall.__init__" = true)
  (kfi_Wall : PySem.W.keepIn K (.ref fi_Wall) = true)
  (xa_Wall_places : PySem.W.findIn K (.ref C_Wall) "_places" = some (some (.ref a_Wall_places)))
  (xb_Wall_places : PySem.W.isFn K (.ref a_Wall_places) = true)
  (lm_Wall_places : K.lookup a_Wall_places = some ⟨ocm_Wall_places, odm_Wall_places, .func (PySem.W.fnOf "_places" "Wall._places" (defArgs s_Wall_places) (defBody s_Wall_places) (defScope s_Wall_places) .none kVm_Wall_places dcm_Wall_places pmm_Wall_places anm_Wall_places cdm_Wall_places ctm_Wall_places), slm_Wall_places⟩)
  (cm_Wall_places : PySem.W.codeIn K cdm_Wall_places "Wall._places" = true)
  (km_Wall_places : PySem.W.keepIn K (.ref a_Wall_places) = true)
  (xa_Wall_bottoms : PySem.W.findIn K (.ref C_Wall) "_bottoms" = some (some (.ref a_Wall_bottoms)))
  (xb_Wall_bottoms : PySem.W.isFn K (.ref a_Wall_bottoms) = true)
  (lm_Wall_bottoms : K.lookup a_Wall_bottoms = some ⟨ocm_Wall_bottoms, odm_Wall_bottoms, .func (PySem.W.fnOf "_bottoms" "Wall._bottoms" (defArgs s_Wall_bottoms) (defBody s_Wall_bottoms) (defScope s_Wall_bottoms) .none kVm_Wall_bottoms dcm_Wall_bottoms pmm_Wall_bottoms anm_Wall_bottoms cdm_Wall_bottoms ctm_Wall_bottoms), slm_Wall_bottoms⟩)
  (cm_Wall_bottoms : PySem.W.codeIn K cdm_Wall_bottoms "Wall._bottoms" = true)
  (km_Wall_bottoms : PySem.W.keepIn K (.ref a_Wall_bottoms) = true)
  (xa_Wall_check_room : PySem.W.findIn K (.ref C_Wall) "_check_room" = some (some (.ref a_Wall_check_room)))
  (xb_Wall_check_room : PySem.W.isFn K (.ref a_Wall_check_room) = true)
  (lm_Wall_check_room : K.lookup a_Wall_check_room = some ⟨ocm_Wall_check_room, odm_Wall_check_room, .func (PySem.W.fnOf "_check_room" "Wall._check_room" (defArgs s_Wall_check_room) (defBody s_Wall_check_room) (defScope s_Wall_check_room) .none kVm_Wall_check_room dcm_Wall_check_room pmm_Wall_check_room anm_Wall_check_room cdm_Wall_check_room ctm_Wall_check_room), slm_Wall_check_room⟩)
  (cm_Wall_check_room : PySem.W.codeIn K cdm_Wall_check_room "Wall._check_room" = true)
  (km_Wall_check_room : PySem.W.keepIn K (.ref a_Wall_check_room) = true)
  (xa_Wall_change : PySem.W.findIn K (.ref C_Wall) "_change" = some (some (.ref a_Wall_change)))
  (xb_Wall_change : PySem.W.isFn K (.ref a_Wall_change) = true)
  (lm_Wall_change : K.lookup a_Wall_change = some ⟨ocm_Wall_change, odm_Wall_change, .func (PySem.W.fnOf "_change" "Wall._change" (defArgs s_Wall_change) (defBody s_Wall_change) (defScope s_Wall_change) .none kVm_Wall_change dcm_Wall_change pmm_Wall_change anm_Wall_change cdm_Wall_change ctm_Wall_change), slm_Wall_change⟩)
  (cm_Wall_change : PySem.W.codeIn K cdm_Wall_change "Wall._change" = true)
  (km_Wall_change : PySem.W.keepIn K (.ref a_Wall_change) = true)
  (xa_Wall_put_in : PySem.W.findIn K (.ref C_Wall) "put_in" = some (some (.ref a_Wall_put_in)))
  (xb_Wall_put_in : PySem.W.isFn K (.ref a_Wall_put_in) = true)
  (lm_Wall_put_in : K.lookup a_Wall_put_in = some ⟨ocm_Wall_put_in, odm_Wall_put_in, .func (PySem.W.fnOf "put_in" "Wall.put_in" (defArgs s_Wall_put_in) (defBody s_Wall_put_in) (defScope s_Wall_put_in) .none kVm_Wall_put_in dcm_Wall_put_in pmm_Wall_put_in anm_Wall_put_in cdm_Wall_put_in ctm_Wall_put_in), slm_Wall_put_in⟩)
  (cm_Wall_put_in : PySem.W.codeIn K cdm_Wall_put_in "Wall.put_in" = true)
  (km_Wall_put_in : PySem.W.keepIn K (.ref a_Wall_put_in) = true)
  (xa_Wall_take_out : PySem.W.findIn K (.ref C_Wall) "take_out" = some (some (.ref a_Wall_take_out)))
  (xb_Wall_take_out : PySem.W.isFn K (.ref a_Wall_take_out) = true)
  (lm_Wall_take_out : K.lookup a_Wall_take_out = some ⟨ocm_Wall_take_out, odm_Wall_take_out, .func (PySem.W.fnOf "take_out" "Wall.take_out" (defArgs s_Wall_take_out) (defBody s_Wall_take_out) (defScope s_Wall_take_out) .none kVm_Wall_take_out dcm_Wall_take_out pmm_Wall_take_out anm_Wall_take_out cdm_Wall_take_out ctm_Wall_take_out), slm_Wall_take_out⟩)
  (cm_Wall_take_out : PySem.W.codeIn K cdm_Wall_take_out "Wall.take_out" = true)
  (km_Wall_take_out : PySem.W.keepIn K (.ref a_Wall_take_out) = true)
  (xa_Wall_shift : PySem.W.findIn K (.ref C_Wall) "shift" = some (some (.ref a_Wall_shift)))
  (xb_Wall_shift : PySem.W.isFn K (.ref a_Wall_shift) = true)
  (lm_Wall_shift : K.lookup a_Wall_shift = some ⟨ocm_Wall_shift, odm_Wall_shift, .func (PySem.W.fnOf "shift" "Wall.shift" (defArgs s_Wall_shift) (defBody s_Wall_shift) (defScope s_Wall_shift) .none kVm_Wall_shift dcm_Wall_shift pmm_Wall_shift anm_Wall_shift cdm_Wall_shift ctm_Wall_shift), slm_Wall_shift⟩)
  (cm_Wall_shift : PySem.W.codeIn K cdm_Wall_shift "Wall.shift" = true)
  (km_Wall_shift : PySem.W.keepIn K (.ref a_Wall_shift) = true)
  (xa_Wall_stretch : PySem.W.findIn K (.ref C_Wall) "stretch" = some (some (.ref a_Wall_stretch)))
  (xb_Wall_stretch : PySem.W.isFn K (.ref a_Wall_stretch) = true)
  (lm_Wall_stretch : K.lookup a_Wall_stretch = some ⟨ocm_Wall_stretch, odm_Wall_stretch, .func (PySem.W.fnOf "stretch" "Wall.stretch" (defArgs s_Wall_stretch) (defBody s_Wall_stretch) (defScope s_Wall_stretch) .none kVm_Wall_stretch dcm_Wall_stretch pmm_Wall_stretch anm_Wall_stretch cdm_Wall_stretch ctm_Wall_stretch), slm_Wall_stretch⟩)
  (cm_Wall_stretch : PySem.W.codeIn K cdm_Wall_stretch "Wall.stretch" = true)
  (km_Wall_stretch : PySem.W.keepIn K (.ref a_Wall_stretch) = true)
  (xa_Wall_resize : PySem.W.findIn K (.ref C_Wall) "resize" = some (some (.ref a_Wall_resize)))
  (xb_Wall_resize : PySem.W.isFn K (.ref a_Wall_resize) = true)
  (lm_Wall_resize : K.lookup a_Wall_resize = some ⟨ocm_Wall_resize, odm_Wall_resize, .func (PySem.W.fnOf "resize" "Wall.resize" (defArgs s_Wall_resize) (defBody s_Wall_resize) (defScope s_Wall_resize) .none kVm_Wall_resize dcm_Wall_resize pmm_Wall_resize anm_Wall_resize cdm_Wall_resize ctm_Wall_resize), slm_Wall_resize⟩)
  (cm_Wall_resize : PySem.W.codeIn K cdm_Wall_resize "Wall.resize" = true)
  (km_Wall_resize : PySem.W.keepIn K (.ref a_Wall_resize) = true)
  (xa_Wall_undo : PySem.W.findIn K (.ref C_Wall) "undo" = some (some (.ref a_Wall_undo)))
  (xb_Wall_undo : PySem.W.isFn K (.ref a_Wall_undo) = true)
  (lm_Wall_undo : K.lookup a_Wall_undo = some ⟨ocm_Wall_undo, odm_Wall_undo, .func (PySem.W.fnOf "undo" "Wall.undo" (defArgs s_Wall_undo) (defBody s_Wall_undo) (defScope s_Wall_undo) .none kVm_Wall_undo dcm_Wall_undo pmm_Wall_undo anm_Wall_undo cdm_Wall_undo ctm_Wall_undo), slm_Wall_undo⟩)
  (cm_Wall_undo : PySem.W.codeIn K cdm_Wall_undo "Wall.undo" = true)
  (km_Wall_undo : PySem.W.keepIn K (.ref a_Wall_undo) = true)
  (xa_Wall_add : PySem.W.findIn K (.ref C_Wall) "add" = some (some (.ref a_Wall_add)))
  (xb_Wall_add : PySem.W.isFn K (.ref a_Wall_add) = true)
  (lm_Wall_add : K.lookup a_Wall_add = some ⟨ocm_Wall_add, odm_Wall_add, .func (PySem.W.fnOf "add" "Wall.add" (defArgs s_Wall_add) (defBody s_Wall_add) (defScope s_Wall_add) .none kVm_Wall_add dcm_Wall_add pmm_Wall_add anm_Wall_add cdm_Wall_add ctm_Wall_add), slm_Wall_add⟩)
  (cm_Wall_add : PySem.W.codeIn K cdm_Wall_add "Wall.add" = true)
  (km_Wall_add : PySem.W.keepIn K (.ref a_Wall_add) = true)
  (xc_Wall_add : PySem.W.specialIn K (.ref a_Wall_add) "__get__" = some (some (.builtin "function.__get__")))
  (xd_Wall_add : PySem.W.takesIn K (.ref a_Wall_add) = some false)
  (xe_Wall_add : PySem.W.fnIn K a_Wall_add = true)
  (xa_Wall_tried : PySem.W.findIn K (.ref C_Wall) "tried" = some (some (.ref a_Wall_tried)))
  (xb_Wall_tried : PySem.W.isFn K (.ref a_Wall_tried) = true)
  (lm_Wall_tried : K.lookup a_Wall_tried = some ⟨ocm_Wall_tried, odm_Wall_tried, .func (PySem.W.fnOf "tried" "Wall.tried" (defArgs s_Wall_tried) (defBody s_Wall_tried) (defScope s_Wall_tried) .none kVm_Wall_tried dcm_Wall_tried pmm_Wall_tried anm_Wall_tried cdm_Wall_tried ctm_Wall_tried), slm_Wall_tried⟩)
  (cm_Wall_tried : PySem.W.codeIn K cdm_Wall_tried "Wall.tried" = true)
  (km_Wall_tried : PySem.W.keepIn K (.ref a_Wall_tried) = true)
  (xc_Wall_tried : PySem.W.specialIn K (.ref a_Wall_tried) "__get__" = some (some (.builtin "function.__get__")))
  (xd_Wall_tried : PySem.W.takesIn K (.ref a_Wall_tried) = some false)
  (xe_Wall_tried : PySem.W.fnIn K a_Wall_tried = true)
  (xa_Wall_len : PySem.W.findIn K (.ref C_Wall) "__len__" = some (some (.ref a_Wall_len)))
  (xb_Wall_len : PySem.W.isFn K (.ref a_Wall_len) = true)
  (lm_Wall_len : K.lookup a_Wall_len = some ⟨ocm_Wall_len, odm_Wall_len, .func (PySem.W.fnOf "__len__" "Wall.__len__" (defArgs s_Wall_len) (defBody s_Wall_len) (defScope s_Wall_len) .none kVm_Wall_len dcm_Wall_len pmm_Wall_len anm_Wall_len cdm_Wall_len ctm_Wall_len), slm_Wall_len⟩)
  (cm_Wall_len : PySem.W.codeIn K cdm_Wall_len "Wall.__len__" = true)
  (km_Wall_len : PySem.W.keepIn K (.ref a_Wall_len) = true)
  (pa_Wall_heights : PySem.W.findIn K (.ref C_Wall) "heights" = some (some (.ref q_Wall_heights)))
  (pb_Wall_heights : PySem.W.specialIn K (.ref q_Wall_heights) "__get__" = some (some (.builtin "property.__get__")))
  (pc_Wall_heights : PySem.W.takesIn K (.ref q_Wall_heights) = some true)
  (pd_Wall_heights : PySem.W.recIn K q_Wall_heights "property" = some (.ref w_Wall_heights :: rw_Wall_heights))
  (lw_Wall_heights : K.lookup w_Wall_heights = some ⟨ocw_Wall_heights, odw_Wall_heights, .func (PySem.W.fnOf "heights" "Wall.heights" (defArgs s_Wall_heights) (defBody s_Wall_heights) (defScope s_Wall_heights) .none kVw_Wall_heights dcw_Wall_heights pmw_Wall_heights anw_Wall_heights cdw_Wall_heights ctw_Wall_heights), slw_Wall_heights⟩)
  (cw_Wall_heights : PySem.W.codeIn K cdw_Wall_heights "Wall.heights" = true)
  (kw_Wall_heights : PySem.W.keepIn K (.ref w_Wall_heights) = true)
  (pa_Wall_card_columns : PySem.W.findIn K (.ref C_Wall) "card_columns" = some (some (.ref q_Wall_card_columns)))
  (pb_Wall_card_columns : PySem.W.specialIn K (.ref q_Wall_card_columns) "__get__" = some (some (.builtin "property.__get__")))
  (pc_Wall_card_columns : PySem.W.takesIn K (.ref q_Wall_card_columns) = some true)
  (pd_Wall_card_columns : PySem.W.recIn K q_Wall_card_columns "property" = some (.ref w_Wall_card_columns :: rw_Wall_card_columns))
  (lw_Wall_card_columns : K.lookup w_Wall_card_columns = some ⟨ocw_Wall_card_columns, odw_Wall_card_columns, .func (PySem.W.fnOf "card_columns" "Wall.card_columns" (defArgs s_Wall_card_columns) (defBody s_Wall_card_columns) (defScope s_Wall_card_columns) .none kVw_Wall_card_columns dcw_Wall_card_columns pmw_Wall_card_columns anw_Wall_card_columns cdw_Wall_card_columns ctw_Wall_card_columns), slw_Wall_card_columns⟩)
  (cw_Wall_card_columns : PySem.W.codeIn K cdw_Wall_card_columns "Wall.card_columns" = true)
  (kw_Wall_card_columns : PySem.W.keepIn K (.ref w_Wall_card_columns) = true)
  (pa_Wall_tops : PySem.W.findIn K (.ref C_Wall) "tops" = some (some (.ref q_Wall_tops)))
  (pb_Wall_tops : PySem.W.specialIn K (.ref q_Wall_tops) "__get__" = some (some (.builtin "property.__get__")))
  (pc_Wall_tops : PySem.W.takesIn K (.ref q_Wall_tops) = some true)
  (pd_Wall_tops : PySem.W.recIn K q_Wall_tops "property" = some (.ref w_Wall_tops :: rw_Wall_tops))
  (lw_Wall_tops : K.lookup w_Wall_tops = some ⟨ocw_Wall_tops, odw_Wall_tops, .func (PySem.W.fnOf "tops" "Wall.tops" (defArgs s_Wall_tops) (defBody s_Wall_tops) (defScope s_Wall_tops) .none kVw_Wall_tops dcw_Wall_tops pmw_Wall_tops anw_Wall_tops cdw_Wall_tops ctw_Wall_tops), slw_Wall_tops⟩)
  (cw_Wall_tops : PySem.W.codeIn K cdw_Wall_tops "Wall.tops" = true)
  (kw_Wall_tops : PySem.W.keepIn K (.ref w_Wall_tops) = true)
  (pa_Wall_end : PySem.W.findIn K (.ref C_Wall) "end" = some (some (.ref q_Wall_end)))
  (pb_Wall_end : PySem.W.specialIn K (.ref q_Wall_end) "__get__" = some (some (.builtin "property.__get__")))
  (pc_Wall_end : PySem.W.takesIn K (.ref q_Wall_end) = some true)
  (pd_Wall_end : PySem.W.recIn K q_Wall_end "property" = some (.ref w_Wall_end :: rw_Wall_end))
  (lw_Wall_end : K.lookup w_Wall_end = some ⟨ocw_Wall_end, odw_Wall_end, .func (PySem.W.fnOf "end" "Wall.end" (defArgs s_Wall_end) (defBody s_Wall_end) (defScope s_Wall_end) .none kVw_Wall_end dcw_Wall_end pmw_Wall_end anw_Wall_end cdw_Wall_end ctw_Wall_end), slw_Wall_end⟩)
  (cw_Wall_end : PySem.W.codeIn K cdw_Wall_end "Wall.end" = true)
  (kw_Wall_end : PySem.W.keepIn K (.ref w_Wall_end) = true)
  (pa_Wall_width : PySem.W.findIn K (.ref C_Wall) "width" = some (some (.ref q_Wall_width)))
  (pb_Wall_width : PySem.W.specialIn K (.ref q_Wall_width) "__get__" = some (some (.builtin "property.__get__")))
  (pc_Wall_width : PySem.W.takesIn K (.ref q_Wall_width) = some true)
  (pd_Wall_width : PySem.W.recIn K q_Wall_width "property" = some (.ref w_Wall_width :: rw_Wall_width))
  (lw_Wall_width : K.lookup w_Wall_width = some ⟨ocw_Wall_width, odw_Wall_width, .func (PySem.W.fnOf "width" "Wall.width" (defArgs s_Wall_width) (defBody s_Wall_width) (defScope s_Wall_width) .none kVw_Wall_width dcw_Wall_width pmw_Wall_width anw_Wall_width cdw_Wall_width ctw_Wall_width), slw_Wall_width⟩)
  (cw_Wall_width : PySem.W.codeIn K cdw_Wall_width "Wall.width" = true)
  (kw_Wall_width : PySem.W.keepIn K (.ref w_Wall_width) = true)
  (na_columns_Wall : PySem.W.findIn K (.ref C_Wall) "_columns" = some none)
  (na_right_Wall : PySem.W.findIn K (.ref C_Wall) "_right" = some none)
  (na_gap_Wall : PySem.W.findIn K (.ref C_Wall) "_gap" = some none)
  (na_cards_Wall : PySem.W.findIn K (.ref C_Wall) "_cards" = some none)
  (na_calls_Wall : PySem.W.findIn K (.ref C_Wall) "_calls" = some none) :
    ∃ fd : FuncData, (∀ (s : Shared) (v : Value), BindsTo s fd ⟨[v], []⟩ [("script", v)]) ∧
      ∀ base : Heap, K.In base → base.Ns mainGlobals mg → FnOk l.prog w K mg base CX0 13 fa fd ["script"] (spLaw K) := by
  have e := hfa.symm.trans (PySem.W.mg_of X G a28)
  cases e
  have F0 := fun_mk (st := s_is_integer_within) l0 c0 k0
  have b0 := F0.binds (ps := ["value", "least", "greatest"]) fun _ _ _ _ _ _ us hl => match us, hl with | [_, _, _], _ => rfl
  have F1 := fun_mk (st := s_is_one_height) l1 c1 k1
  have b1 := F1.binds (ps := ["value"]) fun _ _ _ _ _ _ us hl => match us, hl with | [_], _ => rfl
  have F2 := fun_mk (st := s_check_columns) l2 c2 k2
  have b2 := F2.binds (ps := ["columns"]) fun _ _ _ _ _ _ us hl => match us, hl with | [_], _ => rfl
  have F3 := fun_mk (st := s_check_height) l3 c3 k3
  have b3 := F3.binds (ps := ["height"]) fun _ _ _ _ _ _ us hl => match us, hl with | [_], _ => rfl
  have F4 := fun_mk (st := s_check_index) l4 c4 k4
  have b4 := F4.binds (ps := ["index", "many"]) fun _ _ _ _ _ _ us hl => match us, hl with | [_, _], _ => rfl
  have F5 := fun_mk (st := s_lowest_column) l5 c5 k5
  have b5 := F5.binds (ps := ["columns", "right"]) fun _ _ _ _ _ _ us hl => match us, hl with | [_, _], _ => rfl
  have F6 := fun_mk (st := s_lay_cards) l6 c6 k6
  have b6 := F6.binds (ps := ["start", "heights", "right"]) fun _ _ _ _ _ _ us hl => match us, hl with | [_, _, _], _ => rfl
  have F7 := fun_mk (st := s_with_item) l7 c7 k7
  have b7 := F7.binds (ps := ["items", "index", "item"]) fun _ _ _ _ _ _ us hl => match us, hl with | [_, _, _], _ => rfl
  have F8 := fun_mk (st := s_without_item) l8 c8 k8
  have b8 := F8.binds (ps := ["items", "index"]) fun _ _ _ _ _ _ us hl => match us, hl with | [_, _], _ => rfl
  have F9 := fun_mk (st := s_with_moved_item) l9 c9 k9
  have b9 := F9.binds (ps := ["items", "index", "place"]) fun _ _ _ _ _ _ us hl => match us, hl with | [_, _, _], _ => rfl
  have F10 := fun_mk (st := s_with_other_item) l10 c10 k10
  have b10 := F10.binds (ps := ["items", "index", "item"]) fun _ _ _ _ _ _ us hl => match us, hl with | [_, _, _], _ => rfl
  have F11 := fun_mk (st := s_law_source) l11 c11 k11
  have b11 := F11.binds (ps := ["cell", "number"]) fun _ _ _ _ _ _ us hl => match us, hl with | [_, _], _ => rfl
  have F12 := fun_mk (st := s_law_draw) l12 c12 k12
  have b12 := F12.binds (ps := ["source", "count"]) fun _ _ _ _ _ _ us hl => match us, hl with | [_, _], _ => rfl
  have F13 := fun_mk (st := s_law_cells) l13 c13 k13
  have b13 := F13.binds (ps := ["script", "count"]) fun _ _ _ _ _ _ us hl => match us, hl with | [_, _], _ => rfl
  have F14 := fun_mk (st := s_law_same) l14 c14 k14
  have b14 := F14.binds (ps := ["found", "expected"]) fun _ _ _ _ _ _ us hl => match us, hl with | [_, _], _ => rfl
  have F15 := fun_mk (st := s_law_laid) l15 c15 k15
  have b15 := F15.binds (ps := ["cards", "size", "mirror", "free"]) fun _ _ _ _ _ _ us hl => match us, hl with | [_, _, _, _], _ => rfl
  have F16 := fun_mk (st := s_law_due) l16 c16 k16
  have b16 := F16.binds (ps := ["state", "mirror", "free"]) fun _ _ _ _ _ _ us hl => match us, hl with | [_, _, _], _ => rfl
  have F17 := fun_mk (st := s_law_seen) l17 c17 k17
  have b17 := F17.binds (ps := ["one"]) fun _ _ _ _ _ _ us hl => match us, hl with | [_], _ => rfl
  have F18 := fun_mk (st := s_law_cards) l18 c18 k18
  have b18 := F18.binds (ps := ["source", "count"]) fun _ _ _ _ _ _ us hl => match us, hl with | [_, _], _ => rfl
  have F19 := fun_mk (st := s_law_size) l19 c19 k19
  have b19 := F19.binds (ps := ["source", "script"]) fun _ _ _ _ _ _ us hl => match us, hl with | [_, _], _ => rfl
  have F20 := fun_mk (st := s_law_add) l20 c20 k20
  have b20 := F20.binds (ps := ["one", "g"]) fun _ _ _ _ _ _ us hl => match us, hl with | [_, _], _ => rfl
  have F21 := fun_mk (st := s_law_deed) l21 c21 k21
  have b21 := F21.binds (ps := ["source", "state"]) fun _ _ _ _ _ _ us hl => match us, hl with | [_, _], _ => rfl
  have F22 := fun_mk (st := s_law_after) l22 c22 k22
  have b22 := F22.binds (ps := ["state", "deed"]) fun _ _ _ _ _ _ us hl => match us, hl with | [_, _], _ => rfl
  have F23 := fun_mk (st := s_law_do) l23 c23 k23
  have b23 := F23.binds (ps := ["one", "deed"]) fun _ _ _ _ _ _ us hl => match us, hl with | [_, _], _ => rfl
  have F24 := fun_mk (st := s_law_both) l24 c24 k24
  have b24 := F24.binds (ps := ["one", "state", "deed", "mirror", "free"]) fun _ _ _ _ _ _ us hl => match us, hl with | [_, _, _, _, _], _ => rfl
  have F25 := fun_mk (st := s_law_undo_right) l25 c25 k25
  have b25 := F25.binds (ps := ["one", "all_states"]) fun _ _ _ _ _ _ us hl => match us, hl with | [_, _], _ => rfl
  have F26 := fun_mk (st := s_law_call_right) l26 c26 k26
  have b26 := F26.binds (ps := ["source", "one", "all_states"]) fun _ _ _ _ _ _ us hl => match us, hl with | [_, _, _], _ => rfl
  have F27 := fun_mk (st := s_law_holds) l27 c27 k27
  have b27 := F27.binds (ps := ["source", "script"]) fun _ _ _ _ _ _ us hl => match us, hl with | [_, _], _ => rfl
  have F28 := fun_mk (st := s_law) l28 c28 k28
  have b28 := F28.binds (ps := ["script"]) fun _ _ _ _ _ _ us hl => match us, hl with | [_], _ => rfl
  exact ⟨_, fun s v => .of_eq rfl, fun base _ _ => ok_law (⟨CLowcolumnsError, CInvalidHeightError, CInvalidIndexError, CInvalidColumnsError, CInvalidFormatError, CFullError, CEmptyHistoryError, ⟨PySem.W.mg_of X G gLowcolumnsError, cls_mr mLowcolumnsError rLowcolumnsError, xLowcolumnsError, kLowcolumnsError, tLowcolumnsError, ⟨caLowcolumnsError, cbLowcolumnsError, ccLowcolumnsError, ckLowcolumnsError, ceLowcolumnsError, cf, cg, chLowcolumnsError⟩⟩, ⟨PySem.W.mg_of X G gInvalidHeightError, cls_mr mInvalidHeightError rInvalidHeightError, xInvalidHeightError, kInvalidHeightError, tInvalidHeightError, ⟨caInvalidHeightError, cbInvalidHeightError, ccInvalidHeightError, ckInvalidHeightError, ceInvalidHeightError, cf, cg, chInvalidHeightError⟩⟩, ⟨PySem.W.mg_of X G gInvalidIndexError, cls_mr mInvalidIndexError rInvalidIndexError, xInvalidIndexError, kInvalidIndexError, tInvalidIndexError, ⟨caInvalidIndexError, cbInvalidIndexError, ccInvalidIndexError, ckInvalidIndexError, ceInvalidIndexError, cf, cg, chInvalidIndexError⟩⟩, ⟨PySem.W.mg_of X G gInvalidColumnsError, cls_mr mInvalidColumnsError rInvalidColumnsError, xInvalidColumnsError, kInvalidColumnsError, tInvalidColumnsError, ⟨caInvalidColumnsError, cbInvalidColumnsError, ccInvalidColumnsError, ckInvalidColumnsError, ceInvalidColumnsError, cf, cg, chInvalidColumnsError⟩⟩, ⟨PySem.W.mg_of X G gInvalidFormatError, cls_mr mInvalidFormatError rInvalidFormatError, xInvalidFormatError, kInvalidFormatError, tInvalidFormatError, ⟨caInvalidFormatError, cbInvalidFormatError, ccInvalidFormatError, ckInvalidFormatError, ceInvalidFormatError, cf, cg, chInvalidFormatError⟩⟩, ⟨PySem.W.mg_of X G gFullError, cls_mr mFullError rFullError, xFullError, kFullError, tFullError, ⟨caFullError, cbFullError, ccFullError, ckFullError, ceFullError, cf, cg, chFullError⟩⟩, ⟨PySem.W.mg_of X G gEmptyHistoryError, cls_mr mEmptyHistoryError rEmptyHistoryError, xEmptyHistoryError, kEmptyHistoryError, tEmptyHistoryError, ⟨caEmptyHistoryError, cbEmptyHistoryError, ccEmptyHistoryError, ckEmptyHistoryError, ceEmptyHistoryError, cf, cg, chEmptyHistoryError⟩⟩, ndc, f0, _, F0, b0, (PySem.W.mg_of X G a0), f1, _, F1, b1, (PySem.W.mg_of X G a1), f2, _, F2, b2, (PySem.W.mg_of X G a2), f3, _, F3, b3, (PySem.W.mg_of X G a3), f4, _, F4, b4, (PySem.W.mg_of X G a4), f5, _, F5, b5, (PySem.W.mg_of X G a5), f6, _, F6, b6, (PySem.W.mg_of X G a6), f7, _, F7, b7, (PySem.W.mg_of X G a7), f8, _, F8, b8, (PySem.W.mg_of X G a8), f9, _, F9, b9, (PySem.W.mg_of X G a9), f10, _, F10, b10, (PySem.W.mg_of X G a10), f11, _, F11, b11, (PySem.W.mg_of X G a11), f12, _, F12, b12, (PySem.W.mg_of X G a12), f13, _, F13, b13, (PySem.W.mg_of X G a13), f14, _, F14, b14, (PySem.W.mg_of X G a14), f15, _, F15, b15, (PySem.W.mg_of X G a15), f16, _, F16, b16, (PySem.W.mg_of X G a16), f17, _, F17, b17, (PySem.W.mg_of X G a17), f18, _, F18, b18, (PySem.W.mg_of X G a18), f19, _, F19, b19, (PySem.W.mg_of X G a19), f20, _, F20, b20, (PySem.W.mg_of X G a20), f21, _, F21, b21, (PySem.W.mg_of X G a21), f22, _, F22, b22, (PySem.W.mg_of X G a22), f23, _, F23, b23, (PySem.W.mg_of X G a23), f24, _, F24, b24, (PySem.W.mg_of X G a24), f25, _, F25, b25, (PySem.W.mg_of X G a25), f26, _, F26, b26, (PySem.W.mg_of X G a26), f27, _, F27, b27, (PySem.W.mg_of X G a27), fa, _, F28, b28, (PySem.W.mg_of X G a28), (PySem.W.mg_none_of X G z_isinstance), (PySem.W.mg_none_of X G z_bool), (PySem.W.mg_none_of X G z_int), (PySem.W.mg_none_of X G z_min), (PySem.W.mg_none_of X G z_len), (PySem.W.mg_none_of X G z_list), (PySem.W.mg_none_of X G z_max), (PySem.W.mg_none_of X G z_tuple), (PySem.W.mg_none_of X G z_all), (PySem.W.mg_none_of X G z_zip), (PySem.W.mg_none_of X G z_range), (PySem.W.mg_none_of X G z_enumerate), t_MOST_HEIGHT, (PySem.W.mg_of X G c_MOST_HEIGHT), t_MOST_COLUMNS, (PySem.W.mg_of X G c_MOST_COLUMNS), C_Wall, (PySem.W.mg_of X G gg_Wall), ⟨ca_Wall, cb_Wall, cc_Wall, cd_Wall⟩, ⟨ra_Wall, rb_Wall⟩, fi_Wall, _, ⟨ma_Wall, mb_Wall, mc_Wall, md_Wall⟩, ⟨tm_Wall_MOST, cv_Wall_MOST, ⟨_, rfl⟩⟩, (fun_mk (st := s_Wall_init) lfi_Wall cfi_Wall kfi_Wall), ((fun_mk (st := s_Wall_init) lfi_Wall cfi_Wall kfi_Wall).binds (ps := ["self", "columns"]) fun _ _ _ _ _ _ us hl => match us, hl with | [_, _], _ => rfl), a_Wall_places, _, (fun_mk (st := s_Wall_places) lm_Wall_places cm_Wall_places km_Wall_places), ⟨xa_Wall_places, xb_Wall_places, km_Wall_places⟩, ((fun_mk (st := s_Wall_places) lm_Wall_places cm_Wall_places km_Wall_places).binds (ps := ["self", "cards"]) fun _ _ _ _ _ _ us hl => match us, hl with | [_, _], _ => rfl), a_Wall_bottoms, _, (fun_mk (st := s_Wall_bottoms) lm_Wall_bottoms cm_Wall_bottoms km_Wall_bottoms), ⟨xa_Wall_bottoms, xb_Wall_bottoms, km_Wall_bottoms⟩, ((fun_mk (st := s_Wall_bottoms) lm_Wall_bottoms cm_Wall_bottoms km_Wall_bottoms).binds (ps := ["self"]) fun _ _ _ _ _ _ us hl => match us, hl with | [_], _ => rfl), a_Wall_check_room, _, (fun_mk (st := s_Wall_check_room) lm_Wall_check_room cm_Wall_check_room km_Wall_check_room), ⟨xa_Wall_check_room, xb_Wall_check_room, km_Wall_check_room⟩, ((fun_mk (st := s_Wall_check_room) lm_Wall_check_room cm_Wall_check_room km_Wall_check_room).binds (ps := ["self", "many"]) fun _ _ _ _ _ _ us hl => match us, hl with | [_, _], _ => rfl), a_Wall_change, _, (fun_mk (st := s_Wall_change) lm_Wall_change cm_Wall_change km_Wall_change), ⟨xa_Wall_change, xb_Wall_change, km_Wall_change⟩, ((fun_mk (st := s_Wall_change) lm_Wall_change cm_Wall_change km_Wall_change).binds (ps := ["self", "columns", "cards"]) fun _ _ _ _ _ _ us hl => match us, hl with | [_, _, _], _ => rfl), a_Wall_put_in, _, (fun_mk (st := s_Wall_put_in) lm_Wall_put_in cm_Wall_put_in km_Wall_put_in), ⟨xa_Wall_put_in, xb_Wall_put_in, km_Wall_put_in⟩, ((fun_mk (st := s_Wall_put_in) lm_Wall_put_in cm_Wall_put_in km_Wall_put_in).binds (ps := ["self", "index", "height"]) fun _ _ _ _ _ _ us hl => match us, hl with | [_, _, _], _ => rfl), a_Wall_take_out, _, (fun_mk (st := s_Wall_take_out) lm_Wall_take_out cm_Wall_take_out km_Wall_take_out), ⟨xa_Wall_take_out, xb_Wall_take_out, km_Wall_take_out⟩, ((fun_mk (st := s_Wall_take_out) lm_Wall_take_out cm_Wall_take_out km_Wall_take_out).binds (ps := ["self", "index"]) fun _ _ _ _ _ _ us hl => match us, hl with | [_, _], _ => rfl), a_Wall_shift, _, (fun_mk (st := s_Wall_shift) lm_Wall_shift cm_Wall_shift km_Wall_shift), ⟨xa_Wall_shift, xb_Wall_shift, km_Wall_shift⟩, ((fun_mk (st := s_Wall_shift) lm_Wall_shift cm_Wall_shift km_Wall_shift).binds (ps := ["self", "index", "place"]) fun _ _ _ _ _ _ us hl => match us, hl with | [_, _, _], _ => rfl), a_Wall_stretch, _, (fun_mk (st := s_Wall_stretch) lm_Wall_stretch cm_Wall_stretch km_Wall_stretch), ⟨xa_Wall_stretch, xb_Wall_stretch, km_Wall_stretch⟩, ((fun_mk (st := s_Wall_stretch) lm_Wall_stretch cm_Wall_stretch km_Wall_stretch).binds (ps := ["self", "index", "height"]) fun _ _ _ _ _ _ us hl => match us, hl with | [_, _, _], _ => rfl), a_Wall_resize, _, (fun_mk (st := s_Wall_resize) lm_Wall_resize cm_Wall_resize km_Wall_resize), ⟨xa_Wall_resize, xb_Wall_resize, km_Wall_resize⟩, ((fun_mk (st := s_Wall_resize) lm_Wall_resize cm_Wall_resize km_Wall_resize).binds (ps := ["self", "columns"]) fun _ _ _ _ _ _ us hl => match us, hl with | [_, _], _ => rfl), a_Wall_undo, _, (fun_mk (st := s_Wall_undo) lm_Wall_undo cm_Wall_undo km_Wall_undo), ⟨xa_Wall_undo, xb_Wall_undo, km_Wall_undo⟩, ((fun_mk (st := s_Wall_undo) lm_Wall_undo cm_Wall_undo km_Wall_undo).binds (ps := ["self"]) fun _ _ _ _ _ _ us hl => match us, hl with | [_], _ => rfl), a_Wall_add, _, (fun_mk (st := s_Wall_add) lm_Wall_add cm_Wall_add km_Wall_add), ⟨xa_Wall_add, xb_Wall_add, km_Wall_add⟩, ⟨⟨xa_Wall_add, xb_Wall_add, km_Wall_add⟩, xc_Wall_add, xd_Wall_add, by decide +kernel, xe_Wall_add⟩, a_Wall_tried, _, (fun_mk (st := s_Wall_tried) lm_Wall_tried cm_Wall_tried km_Wall_tried), ⟨xa_Wall_tried, xb_Wall_tried, km_Wall_tried⟩, ⟨⟨xa_Wall_tried, xb_Wall_tried, km_Wall_tried⟩, xc_Wall_tried, xd_Wall_tried, by decide +kernel, xe_Wall_tried⟩, a_Wall_len, _, (fun_mk (st := s_Wall_len) lm_Wall_len cm_Wall_len km_Wall_len), ⟨xa_Wall_len, xb_Wall_len, km_Wall_len⟩, ((fun_mk (st := s_Wall_len) lm_Wall_len cm_Wall_len km_Wall_len).binds (ps := ["self"]) fun _ _ _ _ _ _ us hl => match us, hl with | [_], _ => rfl), q_Wall_heights, w_Wall_heights, _, ⟨pa_Wall_heights, pb_Wall_heights, pc_Wall_heights, ⟨_, pd_Wall_heights⟩⟩, (fun_mk (st := s_Wall_heights) lw_Wall_heights cw_Wall_heights kw_Wall_heights), ((fun_mk (st := s_Wall_heights) lw_Wall_heights cw_Wall_heights kw_Wall_heights).binds (ps := ["self"]) fun _ _ _ _ _ _ us hl => match us, hl with | [_], _ => rfl), q_Wall_card_columns, w_Wall_card_columns, _, ⟨pa_Wall_card_columns, pb_Wall_card_columns, pc_Wall_card_columns, ⟨_, pd_Wall_card_columns⟩⟩, (fun_mk (st := s_Wall_card_columns) lw_Wall_card_columns cw_Wall_card_columns kw_Wall_card_columns), ((fun_mk (st := s_Wall_card_columns) lw_Wall_card_columns cw_Wall_card_columns kw_Wall_card_columns).binds (ps := ["self"]) fun _ _ _ _ _ _ us hl => match us, hl with | [_], _ => rfl), q_Wall_tops, w_Wall_tops, _, ⟨pa_Wall_tops, pb_Wall_tops, pc_Wall_tops, ⟨_, pd_Wall_tops⟩⟩, (fun_mk (st := s_Wall_tops) lw_Wall_tops cw_Wall_tops kw_Wall_tops), ((fun_mk (st := s_Wall_tops) lw_Wall_tops cw_Wall_tops kw_Wall_tops).binds (ps := ["self"]) fun _ _ _ _ _ _ us hl => match us, hl with | [_], _ => rfl), q_Wall_end, w_Wall_end, _, ⟨pa_Wall_end, pb_Wall_end, pc_Wall_end, ⟨_, pd_Wall_end⟩⟩, (fun_mk (st := s_Wall_end) lw_Wall_end cw_Wall_end kw_Wall_end), ((fun_mk (st := s_Wall_end) lw_Wall_end cw_Wall_end kw_Wall_end).binds (ps := ["self"]) fun _ _ _ _ _ _ us hl => match us, hl with | [_], _ => rfl), q_Wall_width, w_Wall_width, _, ⟨pa_Wall_width, pb_Wall_width, pc_Wall_width, ⟨_, pd_Wall_width⟩⟩, (fun_mk (st := s_Wall_width) lw_Wall_width cw_Wall_width kw_Wall_width), ((fun_mk (st := s_Wall_width) lw_Wall_width cw_Wall_width kw_Wall_width).binds (ps := ["self"]) fun _ _ _ _ _ _ us hl => match us, hl with | [_], _ => rfl), na_columns_Wall, na_right_Wall, na_gap_Wall, na_cards_Wall, na_calls_Wall⟩ : Txt K mg)⟩
end K20
open PySem PySem.W PyProof.Rows
set_option maxHeartbeats 0 in
theorem PySem.Challenge.cw_lowcolumns_k20_calls_reverted_holds : PySem.Challenge.rw_lowcolumns_k20_calls_reverted.Holds := by
  w_on; o_law; k_headL; (case hw => w_witness2)
  k_fill
  refine L2.walk_of (l := PySem.Challenge.rw_lowcolumns_k20_calls_reverted) (n := 63) (k := 13) (x := "script") (CX := fun _ => L2.CX0) (sp := fun w => K20.spLaw _) rfl (by decide) rfl ⟨rfl, by decide, by decide⟩ (fun w h Y => PySem.W.kIn_of Y) ?F (fun _ _ a ns hl hO hS => ⟨a, ns, rfl, Lc.scr_of hO hS, hl, fun _ => rfl⟩) (fun _ _ _ _ _ h => h)
  case F =>
    intro w mg fa h KX G hmg
    refine' K20.all_mk KX G hmg ?gLowcolumnsError ?gInvalidHeightError ?gInvalidIndexError ?gInvalidColumnsError ?gInvalidFormatError ?gFullError ?gEmptyHistoryError ?mLowcolumnsError ?rLowcolumnsError ?xLowcolumnsError ?kLowcolumnsError ?tLowcolumnsError ?caLowcolumnsError ?cbLowcolumnsError ?ccLowcolumnsError ?ckLowcolumnsError ?ceLowcolumnsError ?chLowcolumnsError ?mInvalidHeightError ?rInvalidHeightError ?xInvalidHeightError ?kInvalidHeightError ?tInvalidHeightError ?caInvalidHeightError ?cbInvalidHeightError ?ccInvalidHeightError ?ckInvalidHeightError ?ceInvalidHeightError ?chInvalidHeightError ?mInvalidIndexError ?rInvalidIndexError ?xInvalidIndexError ?kInvalidIndexError ?tInvalidIndexError ?caInvalidIndexError ?cbInvalidIndexError ?ccInvalidIndexError ?ckInvalidIndexError ?ceInvalidIndexError ?chInvalidIndexError ?mInvalidColumnsError ?rInvalidColumnsError ?xInvalidColumnsError ?kInvalidColumnsError ?tInvalidColumnsError ?caInvalidColumnsError ?cbInvalidColumnsError ?ccInvalidColumnsError ?ckInvalidColumnsError ?ceInvalidColumnsError ?chInvalidColumnsError ?mInvalidFormatError ?rInvalidFormatError ?xInvalidFormatError ?kInvalidFormatError ?tInvalidFormatError ?caInvalidFormatError ?cbInvalidFormatError ?ccInvalidFormatError ?ckInvalidFormatError ?ceInvalidFormatError ?chInvalidFormatError ?mFullError ?rFullError ?xFullError ?kFullError ?tFullError ?caFullError ?cbFullError ?ccFullError ?ckFullError ?ceFullError ?chFullError ?mEmptyHistoryError ?rEmptyHistoryError ?xEmptyHistoryError ?kEmptyHistoryError ?tEmptyHistoryError ?caEmptyHistoryError ?cbEmptyHistoryError ?ccEmptyHistoryError ?ckEmptyHistoryError ?ceEmptyHistoryError ?chEmptyHistoryError ?cf ?cg ?ndc ?a0 ?l0 ?c0 ?k0 ?a1 ?l1 ?c1 ?k1 ?a2 ?l2 ?c2 ?k2 ?a3 ?l3 ?c3 ?k3 ?a4 ?l4 ?c4 ?k4 ?a5 ?l5 ?c5 ?k5 ?a6 ?l6 ?c6 ?k6 ?a7 ?l7 ?c7 ?k7 ?a8 ?l8 ?c8 ?k8 ?a9 ?l9 ?c9 ?k9 ?a10 ?l10 ?c10 ?k10 ?a11 ?l11 ?c11 ?k11 ?a12 ?l12 ?c12 ?k12 ?a13 ?l13 ?c13 ?k13 ?a14 ?l14 ?c14 ?k14 ?a15 ?l15 ?c15 ?k15 ?a16 ?l16 ?c16 ?k16 ?a17 ?l17 ?c17 ?k17 ?a18 ?l18 ?c18 ?k18 ?a19 ?l19 ?c19 ?k19 ?a20 ?l20 ?c20 ?k20 ?a21 ?l21 ?c21 ?k21 ?a22 ?l22 ?c22 ?k22 ?a23 ?l23 ?c23 ?k23 ?a24 ?l24 ?c24 ?k24 ?a25 ?l25 ?c25 ?k25 ?a26 ?l26 ?c26 ?k26 ?a27 ?l27 ?c27 ?k27 ?a28 ?l28 ?c28 ?k28 ?z_isinstance ?z_bool ?z_int ?z_min ?z_len ?z_list ?z_max ?z_tuple ?z_all ?z_zip ?z_range ?z_enumerate ?c_MOST_HEIGHT ?c_MOST_COLUMNS ?gg_Wall ?ca_Wall ?cb_Wall ?cc_Wall ?cd_Wall ?ra_Wall ?rb_Wall ?ma_Wall ?mb_Wall ?mc_Wall ?md_Wall ?cv_Wall_MOST ?lfi_Wall ?cfi_Wall ?kfi_Wall ?xa_Wall_places ?xb_Wall_places ?lm_Wall_places ?cm_Wall_places ?km_Wall_places ?xa_Wall_bottoms ?xb_Wall_bottoms ?lm_Wall_bottoms ?cm_Wall_bottoms ?km_Wall_bottoms ?xa_Wall_check_room ?xb_Wall_check_room ?lm_Wall_check_room ?cm_Wall_check_room ?km_Wall_check_room ?xa_Wall_change ?xb_Wall_change ?lm_Wall_change ?cm_Wall_change ?km_Wall_change ?xa_Wall_put_in ?xb_Wall_put_in ?lm_Wall_put_in ?cm_Wall_put_in ?km_Wall_put_in ?xa_Wall_take_out ?xb_Wall_take_out ?lm_Wall_take_out ?cm_Wall_take_out ?km_Wall_take_out ?xa_Wall_shift ?xb_Wall_shift ?lm_Wall_shift ?cm_Wall_shift ?km_Wall_shift ?xa_Wall_stretch ?xb_Wall_stretch ?lm_Wall_stretch ?cm_Wall_stretch ?km_Wall_stretch ?xa_Wall_resize ?xb_Wall_resize ?lm_Wall_resize ?cm_Wall_resize ?km_Wall_resize ?xa_Wall_undo ?xb_Wall_undo ?lm_Wall_undo ?cm_Wall_undo ?km_Wall_undo ?xa_Wall_add ?xb_Wall_add ?lm_Wall_add ?cm_Wall_add ?km_Wall_add ?xc_Wall_add ?xd_Wall_add ?xe_Wall_add ?xa_Wall_tried ?xb_Wall_tried ?lm_Wall_tried ?cm_Wall_tried ?km_Wall_tried ?xc_Wall_tried ?xd_Wall_tried ?xe_Wall_tried ?xa_Wall_len ?xb_Wall_len ?lm_Wall_len ?cm_Wall_len ?km_Wall_len ?pa_Wall_heights ?pb_Wall_heights ?pc_Wall_heights ?pd_Wall_heights ?lw_Wall_heights ?cw_Wall_heights ?kw_Wall_heights ?pa_Wall_card_columns ?pb_Wall_card_columns ?pc_Wall_card_columns ?pd_Wall_card_columns ?lw_Wall_card_columns ?cw_Wall_card_columns ?kw_Wall_card_columns ?pa_Wall_tops ?pb_Wall_tops ?pc_Wall_tops ?pd_Wall_tops ?lw_Wall_tops ?cw_Wall_tops ?kw_Wall_tops ?pa_Wall_end ?pb_Wall_end ?pc_Wall_end ?pd_Wall_end ?lw_Wall_end ?cw_Wall_end ?kw_Wall_end ?pa_Wall_width ?pb_Wall_width ?pc_Wall_width ?pd_Wall_width ?lw_Wall_width ?cw_Wall_width ?kw_Wall_width ?na_columns_Wall ?na_right_Wall ?na_gap_Wall ?na_cards_Wall ?na_calls_Wall
    (case gLowcolumnsError => k_is); (case gInvalidHeightError => k_is); (case gInvalidIndexError => k_is); (case gInvalidColumnsError => k_is); (case gInvalidFormatError => k_is); (case gFullError => k_is); (case gEmptyHistoryError => k_is); (case mLowcolumnsError => k_is); (case rLowcolumnsError => rfl); (case xLowcolumnsError => k_exc); (case kLowcolumnsError => k_is); (case tLowcolumnsError => k_is); (case caLowcolumnsError => k_is); (case cbLowcolumnsError => k_is); (case ccLowcolumnsError => k_is); (case ckLowcolumnsError => k_is); (case ceLowcolumnsError => k_is); (case chLowcolumnsError => k_is); (case mInvalidHeightError => k_is); (case rInvalidHeightError => rfl); (case xInvalidHeightError => k_exc); (case kInvalidHeightError => k_is); (case tInvalidHeightError => k_is); (case caInvalidHeightError => k_is); (case cbInvalidHeightError => k_is); (case ccInvalidHeightError => k_is); (case ckInvalidHeightError => k_is); (case ceInvalidHeightError => k_is); (case chInvalidHeightError => k_is); (case mInvalidIndexError => k_is); (case rInvalidIndexError => rfl); (case xInvalidIndexError => k_exc); (case kInvalidIndexError => k_is); (case tInvalidIndexError => k_is); (case caInvalidIndexError => k_is); (case cbInvalidIndexError => k_is); (case ccInvalidIndexError => k_is); (case ckInvalidIndexError => k_is); (case ceInvalidIndexError => k_is); (case chInvalidIndexError => k_is); (case mInvalidColumnsError => k_is); (case rInvalidColumnsError => rfl); (case xInvalidColumnsError => k_exc); (case kInvalidColumnsError => k_is); (case tInvalidColumnsError => k_is); (case caInvalidColumnsError => k_is); (case cbInvalidColumnsError => k_is); (case ccInvalidColumnsError => k_is); (case ckInvalidColumnsError => k_is); (case ceInvalidColumnsError => k_is); (case chInvalidColumnsError => k_is); (case mInvalidFormatError => k_is); (case rInvalidFormatError => rfl); (case xInvalidFormatError => k_exc); (case kInvalidFormatError => k_is); (case tInvalidFormatError => k_is); (case caInvalidFormatError => k_is); (case cbInvalidFormatError => k_is); (case ccInvalidFormatError => k_is); (case ckInvalidFormatError => k_is); (case ceInvalidFormatError => k_is); (case chInvalidFormatError => k_is); (case mFullError => k_is); (case rFullError => rfl); (case xFullError => k_exc); (case kFullError => k_is); (case tFullError => k_is); (case caFullError => k_is); (case cbFullError => k_is); (case ccFullError => k_is); (case ckFullError => k_is); (case ceFullError => k_is); (case chFullError => k_is); (case mEmptyHistoryError => k_is); (case rEmptyHistoryError => rfl); (case xEmptyHistoryError => k_exc); (case kEmptyHistoryError => k_is); (case tEmptyHistoryError => k_is); (case caEmptyHistoryError => k_is); (case cbEmptyHistoryError => k_is); (case ccEmptyHistoryError => k_is); (case ckEmptyHistoryError => k_is); (case ceEmptyHistoryError => k_is); (case chEmptyHistoryError => k_is); (case cf => k_is); (case cg => k_is); (case ndc => decide); (case a0 => k_is); (case l0 => k_is); (case c0 => k_is); (case k0 => k_is); (case a1 => k_is); (case l1 => k_is); (case c1 => k_is); (case k1 => k_is); (case a2 => k_is); (case l2 => k_is); (case c2 => k_is); (case k2 => k_is); (case a3 => k_is); (case l3 => k_is); (case c3 => k_is); (case k3 => k_is); (case a4 => k_is); (case l4 => k_is); (case c4 => k_is); (case k4 => k_is); (case a5 => k_is); (case l5 => k_is); (case c5 => k_is); (case k5 => k_is); (case a6 => k_is); (case l6 => k_is); (case c6 => k_is); (case k6 => k_is); (case a7 => k_is); (case l7 => k_is); (case c7 => k_is); (case k7 => k_is); (case a8 => k_is); (case l8 => k_is); (case c8 => k_is); (case k8 => k_is); (case a9 => k_is); (case l9 => k_is); (case c9 => k_is); (case k9 => k_is); (case a10 => k_is); (case l10 => k_is); (case c10 => k_is); (case k10 => k_is); (case a11 => k_is); (case l11 => k_is); (case c11 => k_is); (case k11 => k_is); (case a12 => k_is); (case l12 => k_is); (case c12 => k_is); (case k12 => k_is); (case a13 => k_is); (case l13 => k_is); (case c13 => k_is); (case k13 => k_is); (case a14 => k_is); (case l14 => k_is); (case c14 => k_is); (case k14 => k_is); (case a15 => k_is); (case l15 => k_is); (case c15 => k_is); (case k15 => k_is); (case a16 => k_is); (case l16 => k_is); (case c16 => k_is); (case k16 => k_is); (case a17 => k_is); (case l17 => k_is); (case c17 => k_is); (case k17 => k_is); (case a18 => k_is); (case l18 => k_is); (case c18 => k_is); (case k18 => k_is); (case a19 => k_is); (case l19 => k_is); (case c19 => k_is); (case k19 => k_is); (case a20 => k_is); (case l20 => k_is); (case c20 => k_is); (case k20 => k_is); (case a21 => k_is); (case l21 => k_is); (case c21 => k_is); (case k21 => k_is); (case a22 => k_is); (case l22 => k_is); (case c22 => k_is); (case k22 => k_is); (case a23 => k_is); (case l23 => k_is); (case c23 => k_is); (case k23 => k_is); (case a24 => k_is); (case l24 => k_is); (case c24 => k_is); (case k24 => k_is); (case a25 => k_is); (case l25 => k_is); (case c25 => k_is); (case k25 => k_is); (case a26 => k_is); (case l26 => k_is); (case c26 => k_is); (case k26 => k_is); (case a27 => k_is); (case l27 => k_is); (case c27 => k_is); (case k27 => k_is); (case a28 => k_is); (case l28 => k_is); (case c28 => k_is); (case k28 => k_is); (case z_isinstance => k_is); (case z_bool => k_is); (case z_int => k_is); (case z_min => k_is); (case z_len => k_is); (case z_list => k_is); (case z_max => k_is); (case z_tuple => k_is); (case z_all => k_is); (case z_zip => k_is); (case z_range => k_is); (case z_enumerate => k_is); (case c_MOST_HEIGHT => k_is); (case c_MOST_COLUMNS => k_is); (case gg_Wall => k_is); (case ca_Wall => k_is); (case cb_Wall => k_is); (case cc_Wall => k_is); (case cd_Wall => k_is); (case ra_Wall => k_is); (case rb_Wall => k_is); (case ma_Wall => k_is); (case mb_Wall => k_is); (case mc_Wall => k_is); (case md_Wall => k_is); (case cv_Wall_MOST => k_is); (case lfi_Wall => k_is); (case cfi_Wall => k_is); (case kfi_Wall => k_is); (case xa_Wall_places => k_is); (case xb_Wall_places => k_is); (case lm_Wall_places => k_is); (case cm_Wall_places => k_is); (case km_Wall_places => k_is); (case xa_Wall_bottoms => k_is); (case xb_Wall_bottoms => k_is); (case lm_Wall_bottoms => k_is); (case cm_Wall_bottoms => k_is); (case km_Wall_bottoms => k_is); (case xa_Wall_check_room => k_is); (case xb_Wall_check_room => k_is); (case lm_Wall_check_room => k_is); (case cm_Wall_check_room => k_is); (case km_Wall_check_room => k_is); (case xa_Wall_change => k_is); (case xb_Wall_change => k_is); (case lm_Wall_change => k_is); (case cm_Wall_change => k_is); (case km_Wall_change => k_is); (case xa_Wall_put_in => k_is); (case xb_Wall_put_in => k_is); (case lm_Wall_put_in => k_is); (case cm_Wall_put_in => k_is); (case km_Wall_put_in => k_is); (case xa_Wall_take_out => k_is); (case xb_Wall_take_out => k_is); (case lm_Wall_take_out => k_is); (case cm_Wall_take_out => k_is); (case km_Wall_take_out => k_is); (case xa_Wall_shift => k_is); (case xb_Wall_shift => k_is); (case lm_Wall_shift => k_is); (case cm_Wall_shift => k_is); (case km_Wall_shift => k_is); (case xa_Wall_stretch => k_is); (case xb_Wall_stretch => k_is); (case lm_Wall_stretch => k_is); (case cm_Wall_stretch => k_is); (case km_Wall_stretch => k_is); (case xa_Wall_resize => k_is); (case xb_Wall_resize => k_is); (case lm_Wall_resize => k_is); (case cm_Wall_resize => k_is); (case km_Wall_resize => k_is); (case xa_Wall_undo => k_is); (case xb_Wall_undo => k_is); (case lm_Wall_undo => k_is); (case cm_Wall_undo => k_is); (case km_Wall_undo => k_is); (case xa_Wall_add => k_is); (case xb_Wall_add => k_is); (case lm_Wall_add => k_is); (case cm_Wall_add => k_is); (case km_Wall_add => k_is); (case xc_Wall_add => k_is); (case xd_Wall_add => k_is); (case xe_Wall_add => k_is); (case xa_Wall_tried => k_is); (case xb_Wall_tried => k_is); (case lm_Wall_tried => k_is); (case cm_Wall_tried => k_is); (case km_Wall_tried => k_is); (case xc_Wall_tried => k_is); (case xd_Wall_tried => k_is); (case xe_Wall_tried => k_is); (case xa_Wall_len => k_is); (case xb_Wall_len => k_is); (case lm_Wall_len => k_is); (case cm_Wall_len => k_is); (case km_Wall_len => k_is); (case pa_Wall_heights => k_is); (case pb_Wall_heights => k_is); (case pc_Wall_heights => k_is); (case pd_Wall_heights => k_is); (case lw_Wall_heights => k_is); (case cw_Wall_heights => k_is); (case kw_Wall_heights => k_is); (case pa_Wall_card_columns => k_is); (case pb_Wall_card_columns => k_is); (case pc_Wall_card_columns => k_is); (case pd_Wall_card_columns => k_is); (case lw_Wall_card_columns => k_is); (case cw_Wall_card_columns => k_is); (case kw_Wall_card_columns => k_is); (case pa_Wall_tops => k_is); (case pb_Wall_tops => k_is); (case pc_Wall_tops => k_is); (case pd_Wall_tops => k_is); (case lw_Wall_tops => k_is); (case cw_Wall_tops => k_is); (case kw_Wall_tops => k_is); (case pa_Wall_end => k_is); (case pb_Wall_end => k_is); (case pc_Wall_end => k_is); (case pd_Wall_end => k_is); (case lw_Wall_end => k_is); (case cw_Wall_end => k_is); (case kw_Wall_end => k_is); (case pa_Wall_width => k_is); (case pb_Wall_width => k_is); (case pc_Wall_width => k_is); (case pd_Wall_width => k_is); (case lw_Wall_width => k_is); (case cw_Wall_width => k_is); (case kw_Wall_width => k_is); (case na_columns_Wall => k_is); (case na_right_Wall => k_is); (case na_gap_Wall => k_is); (case na_cards_Wall => k_is); (case na_calls_Wall => k_is)

