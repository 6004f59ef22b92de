import PyProof.Rows.All
import Wide.All
import OpenK.AllK
import Wide.FinOn
import HandS.ForMost
import HandS.SortInts
import HandS.Wide
import HandS.IsInst
import HandS.Style
import HandS.Flow
import HandS.Zip
import KE.KTypeOf
import PyProof.TypeEq
import PyProof.ReprBulk
import PyProof.ReprRoads
import PyProof.Rows.RuleB_pow
import HandS.Iter
import KE.DataMinMax
import HandS.Defaults
import HandS.Conv
import HandS.NoneIn
import HandS.SortKw
import PyProof.WalkInts
import HandS.Walk
import HandS.RevRange
import HandS.Gcd
import PyProof.CallFns
import HandS.More
import PyProof.Rows.SeqMore
import PyProof.StrLaws
import HandS.ExcIs
import HandS.ExcOwn
import HandS.ExcValue
import HandS.WordsExc
import HandS.TryOnly
import HandS.TryMany
import KE.KUnpackStar
import HandS.Text
import HandS.Codes
import PySem.Challenge.RW_lowcolumns_k07_strings_of_cards
set_option Elab.async false
set_option linter.all false
set_option maxRecDepth 100000
namespace Lc
open PySem PySem.Spec PyProof.Rows L2

/-! ### defs that call repr: their promise holds where no repr is under way -/
structure FnG (P : Program) (w : World) (K : PySem.W.Frag) (mg : Str → Option Value) (base : Heap)
    (CX : CXT) (k : Nat) (f : Addr) (fd : FuncData) (ps : List Str) (sp : Sp) : Prop where
  arity : ∀ vs H Q E, sp vs H Q E → vs.length = ps.length
  go : ∀ (A : Around) (outer : List Env) (s : Shared) (H : Hp) (args : Args) (us : List Value) (vs : List V) (Q : VK) (E : XK),
    A.guards = some [] → Room k A → Env0 P w K mg base A outer s H → BindsTo s fd args (ps.zip us) →
    Vals vs us → sp vs H Q E →
    codeAny (model P w) A (.call (.ref f) args) (CR CX outer P w H s Q E) s

theorem FnG.of {P : Program} {w : World} {K : PySem.W.Frag} {mg : Str → Option Value} {base : Heap} {CX : CXT} {k : Nat}
    {f : Addr} {fd : FuncData} {ps : List Str} {sp : Sp} (F : FnOk P w K mg base CX k f fd ps sp) : FnG P w K mg base CX k f fd ps sp :=
  ⟨F.len, fun A o s H a us vs Q E _ => F.run A o s H a us vs Q E⟩

section
variable {P : Program} {w : World} {K : PySem.W.Frag} {mg : Str → Option Value} {base : Heap} {CX : CXT}
/-- a def by its body, where no repr is under way -/
theorem funG {x qual : Str} {st : Stmt} {f : Addr} {fd : FuncData} {N ps : List Str} {k : Nat} {sp : Sp}
    (F : Fun K x qual st f fd) (S : FnScope N ps (defScope st)) (len : ∀ vs H Q E, sp vs H Q E → vs.length = ps.length)
    (hbody : ∀ (cdv : Value) (A : Around) (outer : List Env) (s : Shared) (H : Hp) (vs : List V) (Q : VK) (E : XK),
      A.guards = some [] → Room k (A.deeper (envOfC qual (defScope st) s.heap.objs.size f cdv)) → sp vs H Q E →
      ∃ t, PSs (cxOf CX P w K mg base N qual (defScope st) f cdv A outer s H E) (defBody st) t ∧
        t { nx := fun _ H' => Q .non H', rt := Q } (start N vs) H) :
    FnG P w K mg base CX (k + 1) f fd ps sp := by
  obtain ⟨oc, od, kV, doc, pm, an, cdv, ct, osl, rfl, lk, hcd⟩ := F.ex
  refine ⟨len, fun A outer s H args us vs Q E hgu hr e0 hb r hsp => ?_⟩
  have hl := len _ _ _ _ hsp
  have up : ∀ b o, base.get? b = some o → s.heap.get? b = some o := fun b o e => (e0.bs b o e).1
  have KX : K.In s.heap := e0.mod.kin.keeps up
  have lim : s.heap.NoLimit := e0.mod.nolimit.keeps up
  refine codeAny_call_function hr.depth (KX _ _ lk) rfl S.co S.gen rfl
    (PySem.W.codeRec_of KX hcd) (hb _ _ _ _ ?_)
  refine wpAny_newFunctionEnv_cells S.kind (fun y hy => ?_) fun env he s1 x => ?_
  · have hm := (List.of_mem_zip (show (y.1, y.2) ∈ ps.zip us from hy)).1
    cases S.par y.1 hm with
    | inl q => exact .inl q
    | inr q => exact .inr ⟨q, PySem.W.cellsFrom_some _ _ _ (.inl q)⟩
  subst he
  refine ⟨lim.keeps x.toInCall.keep, codeAny_func ?_⟩
  obtain ⟨t, ht, hq⟩ := hbody cdv A outer s H vs Q E hgu (hr.deeper _) hsp
  have I := inv_start (CX := CX) (P := P) (w := w) (qual := qual) (E := E) S hr.hd e0 hl r x
  refine wpAny_mono (ht.run [] s1 (start N vs) H _ I hq) (fun fl s' hs => ?_) (fun e s' hs => hs)
  cases fl with
  | ret u => obtain ⟨v, σ', H', J, rv, q⟩ := hs; exact ⟨v, H', J.os, J.bare, J.base, J.hok, rv, q⟩
  | next => obtain ⟨σ', H', J, q⟩ := hs; exact ⟨V.non, H', J.os, J.bare, J.base, J.hok, rfl, q⟩
  | brk => obtain ⟨_, _, _, q⟩ := hs; exact q.elim
  | cont => obtain ⟨_, _, _, q⟩ := hs; exact q.elim
end

/-- the same of a def that lets no exception out -/
theorem funG0 {P : Program} {w : World} {K : PySem.W.Frag} {mg : Str → Option Value} {base : Heap} {x qual : Str} {st : Stmt} {f : Addr} {fd : FuncData} {N ps : List Str} {k : Nat} {sp : Sp}
    (F : Fun K x qual st f fd) (S : FnScope N ps (defScope st)) (len : ∀ vs H Q E, sp vs H Q E → vs.length = ps.length)
    (hbody : ∀ (cdv : Value) (A : Around) (outer : List Env) (s : Shared) (H : Hp) (vs : List V) (Q : VK) (E : XK),
      A.guards = some [] → Room k (A.deeper (envOfC qual (defScope st) s.heap.objs.size f cdv)) → sp vs H Q E →
      ∃ t, PSs (cxOf CX0 P w K mg base N qual (defScope st) f cdv A outer s H E).nox (defBody st) t ∧
        t { nx := fun _ H' => Q .non H', rt := Q } (start N vs) H) : FnG P w K mg base CX0 (k + 1) f fd ps sp :=
  funG F S len fun cdv A outer s H vs Q E hgu hr h => by
    obtain ⟨t, ht, hq⟩ := hbody cdv A outer s H vs Q E hgu hr h
    exact ⟨t, ht.nox, hq⟩
section
variable {X : Cx} {CX : CXT} {k : Nat} {f : Addr} {fd : FuncData} {ps : List Str} {sp : Sp} {dvs : List V} {ds : List Value} {E : XK}
  {x : Str} {p pos : Pos} {e : Expr} {es : List Expr} {t tk : TA} {ks : List Str} {kws : List Keyword}
  {g : List Value → List Value → List Value} {gV : List V → List V → List V}
theorem afterG {pins : List (Addr × Obj)} {σ : L2.St} {H : Hp} {s : Shared} {Q : VK} (hx : Passes CX X E) (I : Inv X pins σ H s) {args : Args}
    (h : codeAny (model X.prog X.w) X.A (.call (.ref f) args) (CR CX X.stack X.prog X.w H s Q E) s) :
    wpAny (model X.prog X.w) X.A (call (.ref f) args.pos args.kw) (EP X pins σ Q) X.xe s := by
  refine wpAny_call (codeAny_mono h fun r s' hq => ?_)
  cases r with
  | error e => exact hx pins σ H s e s' I hq
  | ok fl => cases fl with
    | ret u => exact I.after hq
    | next => exact hq.elim
    | brk => exact hq.elim
    | cont => exact hq.elim
/-- f(e, ..) of such a def -/
theorem pe_callG (F : FnG X.prog X.w X.K X.mg X.base CX k f fd ps sp) (hgu : X.A.guards = some []) (hr : Room k X.A)
    (hg : Gl X x) (hm : X.mg x = some (.ref f)) (hk : PySem.W.keepIn X.K (.ref f) = true) (hb : Binds X.K fd ps ds)
    (hd : Vals dvs ds) (hx : Passes CX X E) (ha : PA X (e :: es) t)
    (hdb : (x == ("__debug__" : Str)) = false := by decide)
    (he : starEach (e :: es) X.env = (false, eval e X.env) :: starEach es X.env := by rfl)
    (hpl : (backTo pos (starEach es X.env)).any (·.1) = false := by rfl) :
    PE X (.Call (.Name x p) (e :: es) [] pos) (tCall sp dvs E t) := by
  refine ⟨fun pins s σ H Q I h => wpAny_Call_Name_kw (ld_glob I hg hm ?_ hdb)⟩
  refine PySem.W.callWith_K (h₀ := X.base) I.ok.mod.kin hk
    (thn (ha.run pos pins s σ H _ I h) fun us s1 ⟨vs, H1, I1, r, q⟩ => ⟨I1.kIn, ?_⟩) he hpl
  have r2 : Vals (vs ++ dvs) (us ++ ds) := r.append hd
  have hl : (us ++ ds).length = ps.length := r2.length.symm.trans (F.arity _ _ _ _ q)
  exact afterG hx I1 (F.go X.A X.stack s1 H1 ⟨us, []⟩ (us ++ ds) (vs ++ dvs) Q E hgu hr I1.env0 (hb s1 us I1.kIn hl) r2 q)
/-- f(k = v, ..), every argument by its name -/
theorem pe_callK0 (F : FnOk X.prog X.w X.K X.mg X.base CX k f fd ps sp) (hr : Room k X.A) (hg : Gl X x)
    (hm : X.mg x = some (.ref f)) (hk : PySem.W.keepIn X.K (.ref f) = true) (hb : KBinds X.K fd ps ks g gV) (hx : Passes CX X E)
    (hkw : PK X kws tk) (hall : (backToKw pos (keywordEach kws X.env)).all (·.1.isSome) = true := by rfl)
    (hks : (backToKw pos (keywordEach kws X.env)).filterMap (·.1) = ks := by rfl)
    (hdb : (x == ("__debug__" : Str)) = false := by decide)
    (hpl : ((backTo pos (starEach [] X.env)).any (·.1) || (backToKw pos (keywordEach kws X.env)).any (·.1.isNone)) = false := by rfl) :
    PE X (.Call (.Name x p) [] kws pos) (tCallK sp gV E tNil tk) := by
  refine ⟨fun pins s σ H Q I h => wpAny_Call_Name_kw (ld_glob I hg hm ?_ hdb)⟩
  refine PySem.W.callWith_KW0 (first := []) (h₀ := X.base) I.ok.mod.kin hk hall
    (thn (hkw.run pos pins s σ H _ I h) fun ws s1 ⟨zs, H1, I1, rz, q⟩ => ⟨I1.kIn, ?_⟩) hpl
  rw [hks]
  exact run_fnk (us := []) (vs := []) F hr hb hx I1 .nil rz q
end

/-! ### repr of data -/
/-- data whose repr is known and short: ints of at most 100 signs -/
structure Nice (d : PyData) : Prop where
  sh : d.showable = true
  nd : d.hasDict = false
  dp : d.depth ≤ 40
  lf : d.leavesShort 100 = true
  bk : d.bulk ≤ 100000
def rReprD (K : PySem.W.Frag) : List V → Hp → VK → Prop := fun xs H Q => ∃ a d, xs = [V.ref a] ∧ Dp K H (.ref a) d ∧ Nice d ∧ Q (.str d.shown) H
theorem call_repr_D {X : Cx} (hg : X.A.guards = some []) (hu : X.A.units + 64 < cLine) : CallR X (.builtin "repr") (rReprD X.K) := by
  intro pins s σ H xs us Q I r h
  obtain ⟨a, d, rfl, hd, n, q⟩ := h
  obtain ⟨u, rfl, ru⟩ := vals1 r
  obtain rfl : u = Value.ref a := ru
  obtain ⟨as, rd⟩ := Dp.reads I d (.ref a) (.ref a) hd rfl
  refine repr_of_reads' rd n.sh (PyData.noDict_hsm n.nd) hg (by have := n.dp; omega) (fun _ _ e => e) (fun h' v tk hk => ?_) ?_
  · exact ⟨.str d.shown, H, I.kept hk, ⟨_, rfl⟩, q⟩
  · have := PyData.shown_le_bulk 100 (by decide) d n.lf
    have := n.bk
    rw [sizeLine_eq]
    omega

/-! ### type(x), == of two built-in types -/
def rTypeX (K : PySem.W.Frag) : List V → Hp → VK → Prop := fun xs H Q => ∃ x T, xs = [x] ∧ TyX K H x (.type T) ∧ Q (.ty T) H
theorem call_type_list {X : Cx} : CallR X (.type "type") (fun xs H Q => ∃ a ys, xs = [V.ref a] ∧ SqL X.K H a ys ∧ Q (.ty "list") H) := by
  intro pins s σ H xs us Q I r h
  obtain ⟨a, ys, rfl, hs, q⟩ := h
  obtain ⟨u, rfl, ru⟩ := vals1 r
  obtain rfl : u = Value.ref a := ru
  obtain ⟨its, rv, pl, hz⟩ := I.list hs
  have ty : s.TypeIs (.ref a) "list" := pl.isList.typeIs
  exact PySem.call_type_of ty (by decide +kernel) ⟨.ty "list", H, I, rfl, q⟩
/-- == of the class list and the class list -/
def rEqTy : R2 := fun x y H Q => x = V.ty "list" ∧ y = V.ty "list" ∧ Q (V.bl true) H
theorem op_eqTy {X : Cx} : OpR X (compareOp .Eq) rEqTy := by
  intro pins s σ H x y v u Q I rx ry h
  obtain ⟨e1, e2, q⟩ := h
  subst e1
  subst e2
  have e3 : v = Value.type "list" := rx
  have e4 : u = Value.type "list" := ry
  subst e3
  subst e4
  have fin : EP X pins σ Q (Value.bool true) s := ⟨.bl true, H, I, rfl, q⟩
  exact PySem.TypeEq.eq_type_same (X := "list") PySem.TypeEq.meta_list fin
def CPowW (i j : Int) : Prop := 0 ≤ j ∧ (Builtin.Int.intBits i : Int) * j ≤ 2 ^ 27
theorem op_powW {X : Cx} : OpR X (binaryOp .Pow) (rI CPowW fun i j => .int (i ^ j.toNat)) := opI fun _ _ _ _ _ _ _ hc q => PyProof.Rows.pow_int hc.1 hc.2 q
theorem fdivW {i j : Int} (h0 : 0 < j) (h : j ≤ 100000000000000000000000000000000) : CDivW i j := by
  refine wide_div (b := 130) h0 ?_ (by decide) (by decide)
  have e : (2 : Nat) ^ 130 = 1361129467683753853853498429727072845824 := by decide +kernel
  rw [e]
  omega

/-- len(x) in a comprehension's block: the reading by K -/
def rLenK (K : PySem.W.Frag) : List V → Hp → VK → Prop := fun xs H Q => ∃ p ys, xs = [V.ref p] ∧ (SqL K H p ys ∨ SqT K H p ys) ∧ Q (.int (ys.length : Nat)) H

/-! ### heaps -/
/-- all that was tracked, but what stands at a, is as it was -/
def But (a : Addr) (H H' : Hp) : Prop := ∀ b o, b ≠ a → H b = some o → H' b = some o
theorem But.of {a : Addr} {H H' : Hp} (h : Same H H') : But a H H' := fun b o _ e => h b o e
theorem But.refl (a : Addr) (H : Hp) : But a H H := fun _ _ _ e => e
theorem But.trans {a : Addr} {H H1 H2 : Hp} (x : But a H H1) (y : But a H1 H2) : But a H H2 := fun b o n e => y b o n (x b o n e)
theorem But.upd (a : Addr) (H : Hp) (o : HO) : But a H (upd H a o) := fun b u n e => by rw [upd_ne n]; exact e
theorem same_new {H : Hp} {p : Addr} (o : HO) (h : H p = none) : Same H (upd H p o) := fun b x e => by
  rw [upd_ne (ne_of_none e h)]; exact e
theorem But.new {a : Addr} {H H1 : Hp} {p : Addr} (o : HO) (x : But a H H1) (h : H1 p = none) : But a H (L2.upd H1 p o) := x.trans (But.of (same_new o h))
/-- what was new and is changed: all else is as it was -/
theorem same_but {H H1 H2 : Hp} {p : Addr} (s : Same H H1) (n : H p = none) (b : But p H1 H2) : Same H H2 := fun c o e =>
  b c o (ne_of_none e n) (s c o e)
/-- a list that is read, at another place than a -/
def Oth (K : PySem.W.Frag) (a : Addr) (H : Hp) (l : Addr) (xs : List V) : Prop := SqL K H l xs ∧ (l ≠ a ∨ H l = none)
theorem But.seq {K : PySem.W.Frag} {a l : Addr} {H H' : Hp} {xs : List V} (b : But a H H') (h : SqL K H l xs) (n : l ≠ a) : SqL K H' l xs := by
  rcases h with (h | ⟨o, h⟩) | h
  · exact .inl (.inl (b _ _ n h))
  · exact .inl (.inr ⟨o, b _ _ n h⟩)
  · exact .inr h
/-- the script: locked, or of the module -/
def Scr (K : PySem.W.Frag) (H : Hp) (a : Addr) (xs : List V) : Prop := (∃ o, H a = some (.frz o (.lst xs))) ∨ ∀ H', SqL K H' a xs
theorem Scr.sq {K : PySem.W.Frag} {H : Hp} {a : Addr} {xs : List V} (h : Scr K H a xs) : SqL K H a xs := by
  rcases h with ⟨o, h⟩ | h
  · exact .inl (.inr ⟨o, h⟩)
  · exact h H
theorem scr_of {K : PySem.W.Frag} {H : Hp} {a : Addr} {xs : List V} (hO : Only H) (h : SqL K H a xs) : Scr K H a xs := by
  rcases h with (h | ⟨o, h⟩) | h
  · rcases hO a with z | ⟨o, ys, z⟩ <;> (rw [h] at z; cases z)
  · exact .inl ⟨o, h⟩
  · exact .inr fun _ => .inr h
theorem Scr.same {K : PySem.W.Frag} {H H' : Hp} {a : Addr} {xs : List V} (h : Scr K H a xs) (s : Same H H') : Scr K H' a xs := by
  rcases h with ⟨o, h⟩ | h
  · exact .inl ⟨o, s _ _ h⟩
  · exact .inr h
theorem Scr.but {K : PySem.W.Frag} {H H' : Hp} {a p : Addr} {xs : List V} (h : Scr K H a xs) (n : ∀ o u, H p ≠ some (.frz o u)) (b : But p H H') : Scr K H' a xs := by
  rcases h with ⟨o, h⟩ | h
  · exact .inl ⟨o, b _ _ (fun e => n _ _ (e ▸ h)) h⟩
  · exact .inr h

/-! ### loops in the shape that our promises have -/
theorem ite_t {c A B : Prop} [Decidable c] (hc : c) (h : A) : if c then A else B := by rw [if_pos hc]; exact h
theorem ite_f {c A B : Prop} [Decidable c] (hc : ¬ c) (h : B) : if c then A else B := by rw [if_neg hc]; exact h
theorem same_set {H H1 : Hp} {p : Addr} {o : HO} (s : Same H H1) (n : H p = none) : Same H (upd H1 p o) := fun b u e => by
  rw [upd_ne (ne_of_none e n)]
  exact s b u e
theorem same_lay {H H1 : Hp} {p : Addr} {o : HO} (s : Same H H1) (n : H1 p = none) : Same H (upd H1 p o) := same_set s (s.free n)
theorem take_map_succ {α β : Type} (f : α → β) {xs : List α} {i : Nat} {x : α} (h : xs[i]? = some x) : (xs.take i).map f ++ [f x] = (xs.take (i + 1)).map f := by
  rw [List.take_add_one, h, List.map_append]
  rfl
theorem get_map {α β : Type} {f : α → β} {xs : List α} {i : Nat} {y : β} (h : (xs.map f)[i]? = some y) : ∃ x, xs[i]? = some x ∧ y = f x := by
  rw [List.getElem?_map] at h
  cases e : xs[i]? with
  | none => rw [e] at h; cases h
  | some x => rw [e] at h; exact ⟨x, rfl, (Option.some.inj h).symm⟩
theorem get_lt {α : Type} {xs : List α} {i : Nat} {x : α} (h : xs[i]? = some x) : i < xs.length := (List.getElem?_eq_some_iff.mp h).1
theorem small_of {n m : Nat} (h : n ≤ m) (hm : m ≤ 100000) : n < sizeLine := by rw [sizeLine_eq]; omega
theorem small_le {n m : Nat} (h : n ≤ m) (hm : m ≤ 100000) : n ≤ sizeLine := by rw [sizeLine_eq]; omega
/-- ints of a list within bounds -/
def within (lo hi : Int) (ns : List Int) : Bool := ns.all fun n => decide (lo ≤ n ∧ n ≤ hi)
theorem bits_le {x : Int} {b : Nat} (h : x.natAbs < 2 ^ b) (hb : 0 < b) : Builtin.Int.intBits x ≤ b := by
  have l := PySem.Flt.log2_lt_of hb h
  unfold Builtin.Int.intBits
  split <;> omega

/-! ### the end of a law's row, where the law calls repr -/
theorem nil_no {α : Type} {b : α} (h : b ∈ ([] : List α)) {p : Prop} : p := by cases h
theorem lawG {P : Program} {w : World} {K : PySem.W.Frag} {mg mb : Str → Option Value} {CX : CXT} {k : Nat} {fa a : Addr} {fd : FuncData} {x : Str} {sp : Sp} {s₁ : Shared} {vs : List Value} {ns : List Int}
    (KX : K.In s₁.heap) (hns : s₁.heap.Ns mainGlobals mg) (hb : s₁.heap.Ns builtinsNs mb) (hbb : ∀ x : Str, x ≠ "__name__" → mb x = bootBuiltins x)
    (hlim : s₁.heap.NoLimit) (hg : s₁.gens = #[]) (ha : s₁.heap.get? a = some { cls := .type "list", data := .seq vs.toArray })
    (hi : IntsAre vs ns) (hl : ns.length ≤ sizeLine) (hr : Room k callerA)
    (F : ∀ base : Heap, K.In base → base.Ns mainGlobals mg → FnG P w K mg base CX k fa fd [x] sp)
    (hbind : ∀ (s : Shared) (u : Value), BindsTo s fd ⟨[u], []⟩ [(x, u)])
    (hsp : ∀ H : Hp, Only H → SqL K H a (ns.map V.int) → sp [.ref a] H (fun v _ => v = .bl true) fun _ _ _ => False)
    (hCX : ∀ H e s', CX [] H s₁ (fun _ _ _ => False) e s' → False) :
    codeAny (model P w) callerA (.call (.ref fa) ⟨[.ref a], []⟩)
      (fun r s' => r = .ok (.ret (.bool true)) ∧ OldK s₁.heap s'.heap ∧ s'.os = s₁.os ∧ AllBare s'.gens) s₁ := by
  have rv := vals_ints hi
  have lenV := hi.length
  /- H: what is tracked at the entry, the script at most -/
  have core : ∀ H : Hp, Only H → SqL K H a (ns.map V.int) → HOk P w H s₁.heap → (∀ b, H b ≠ none → b = a) →
      (H a ≠ none → K.lookup a = none) →
      codeAny (model P w) callerA (.call (.ref fa) ⟨[.ref a], []⟩)
        (fun r s' => r = .ok (.ret (.bool true)) ∧ OldK s₁.heap s'.heap ∧ s'.os = s₁.os ∧ AllBare s'.gens) s₁ := by
    intro H hO hS ok hA hK
    have onlyA : ∀ {b : Addr}, (b = a → False) → H b = none := fun {b} hn => by
      cases q : H b with
      | none => rfl
      | some u => exact (hn (hA b (by rw [q]; exact fun z => nomatch z))).elim
    have nsK : ∀ {b : Addr} {m : Str → Option Value}, s₁.heap.Ns b m → (hidT s₁.heap H).Ns b m := by
      rintro b m ⟨o, es, ep, e, d, r⟩
      refine ⟨o, es, ep, hidT_get e (onlyA fun z => ?_), d, r⟩
      subst z
      rw [ha] at e
      cases e
      exact nomatch d
    have hKb : K.In (hidT s₁.heap H) := fun b o e => by
      refine hidT_get (KX b o e) ?_
      cases q : H b with
      | none => rfl
      | some u =>
        have e' : b = a := hA b (by rw [q]; exact fun z => nomatch z)
        subst e'
        rw [hK (by rw [q]; exact fun z => nomatch z)] at e
        cases e
    obtain ⟨mc, h1, h2⟩ := hlim
    have hM : Mod K mg (hidT s₁.heap H) := ⟨hKb, nsK hns, ⟨mb, nsK hb, hbb⟩, ⟨mc, nsK h1, h2⟩⟩
    have e0 : Env0 P w K mg (hidT s₁.heap H) callerA [] s₁ H :=
      ⟨rfl, hM, fun b o e => of_hidT e, Nat.le_of_eq (hidT_size _ _), trivial, (fun b z => nil_no z), ok, AllBare.of_eq hg⟩
    have run := (F _ hKb (nsK hns)).go callerA [] s₁ H ⟨[.ref a], []⟩ [.ref a] [.ref a] _ _ rfl hr e0 (hbind s₁ (.ref a)) (.cons rfl .nil) (hsp H hO hS)
    refine codeAny_mono run fun r s' h => ?_
    match r, h with
    | .error e, h => exact (hCX H e s' h).elim
    | .ok .next, h => exact h.elim
    | .ok .brk, h => exact h.elim
    | .ok .cont, h => exact h.elim
    | .ok (.ret u), h =>
      obtain ⟨v, H', os, bare, un, hok', r', q⟩ := h
      obtain rfl : v = .bl true := q
      obtain rfl : u = Value.bool true := r'
      refine ⟨rfl, OldK.of_keep fun b o e => ?_, os, bare⟩
      rcases hO b with z | ⟨ob, xs, z⟩
      · exact un.keep b o e z (fun y => nil_no y) (fun y => nil_no y)
      · have e1 := (ok b _ z).1
        have e2 := (hok' b _ (un.frzs b ob _ z)).1
        rw [e] at e1
        cases e1
        exact e2
  cases hk : K.lookup a with
  | some o =>
    have e := KX a o hk
    rw [ha] at e
    cases e
    refine core (fun _ => none) (fun _ => .inl rfl) (.inr ⟨_, vs.toArray, _, hk, rfl, rfl, rfl, ?_, by simpa using rv⟩) ?_ (fun b z => absurd rfl z) (fun z => absurd rfl z)
    · rw [List.size_toArray, lenV]
      exact hl
    · intro b u z
      exact nomatch (show (none : Option HO) = some u from z)
  | none =>
    have at_ : ∀ b u, (if b = a then some (HO.frz { cls := .type "list", data := .seq vs.toArray } (.lst (ns.map V.int))) else none) = some u → b = a ∧ u = HO.frz { cls := .type "list", data := .seq vs.toArray } (.lst (ns.map V.int)) := fun b u z => by
      by_cases hb : b = a
      · rw [if_pos hb] at z
        exact ⟨hb, (Option.some.inj z).symm⟩
      · rw [if_neg hb] at z
        cases z
    refine core (fun b => if b = a then some (HO.frz { cls := .type "list", data := .seq vs.toArray } (.lst (ns.map V.int))) else none) (fun b => ?_) (.inl (.inr ⟨{ cls := .type "list", data := .seq vs.toArray }, if_pos rfl⟩)) (fun b u z => ?_) (fun b z => ?_) fun _ => hk
    · by_cases hb : b = a
      · exact .inr ⟨_, _, if_pos hb⟩
      · exact .inl (if_neg hb)
    · obtain ⟨hb, rfl⟩ := at_ b u z
      subst hb
      exact ⟨ha, by rw [List.length_map]; exact hl, vs, _, rv, ha⟩
    · by_cases hb : b = a
      · exact hb
      · exact absurd (if_neg hb) z
/-- the goal that the head leaves, from such a promise of the law's def -/
theorem walkG {l : PySem.W.OpenLaw} {n k : Nat} {q : Program} {loose : List Str} {XP : (Str → Option Value) → Heap → Prop} {YP : World → Heap → Prop} {d : DefRec} {K : Params → PySem.W.Frag} {CX : World → CXT} {sp : World → Sp} {x : Str}
    (hn : l.most = some n) (hn2 : n ≤ sizeLine) (hdf : d.params.defaults = []) (hr : Room k callerA) (hY : ∀ (w : World) (h : Heap), YP w h → (K w.params).In h)
    (F : ∀ (w : World) (mg : Str → Option Value) (fa : Addr) (h : Heap), (K w.params).In h → h.Ns mainGlobals mg → mg d.name = some (.ref fa) →
      ∃ fd : FuncData, (∀ (s : Shared) (u : Value), BindsTo s fd ⟨[u], []⟩ [(x, u)]) ∧ ∀ base : Heap, (K w.params).In base → base.Ns mainGlobals mg → FnG l.prog w (K w.params) mg base (CX w) k fa fd [x] (sp w))
    (hsp : ∀ (w : World) (H : Hp) (a : Addr) (ns : List Int), ns.length ≤ n → Only H → SqL (K w.params) H a (ns.map V.int) → sp w [.ref a] H (fun v _ => v = .bl true) fun _ _ _ => False)
    (hCX : ∀ (w : World) (H : Hp) (s : Shared) (e : Value) (s' : Shared), CX w [] H s (fun _ _ _ => False) e s' → False) :
    PySem.W.WalkO q loose XP YP l.row.toRowW d [] (fun f vs => PySem.call f vs) := by
  refine Att.attach_call hn hdf fun w s₀ s₁ mg mb fa o pm cd doc a vs ns G Y ho hd hcd hmg hobj hints hlen hg => ?_
  have KX := hY w _ Y
  obtain ⟨fd, hb, hF⟩ := F w mg fa _ KX G.T.g hmg
  exact lawG KX G.T.g G.T.b G.T.builtins G.T.nolimit hg hobj hints (Nat.le_trans hlen hn2) hr hF hb (fun H hO hS => hsp w H a ns hlen hO hS) (fun H e s' => hCX w H s₁ e s')
end Lc

/-! the mathematics of layouts: plain Lean -/
namespace Lc
/-- the first place of m -/
def ix (m : Int) : List Int → Nat
  | [] => 0
  | x :: xs => if x = m then 0 else ix m xs + 1
theorem ix_get {m : Int} : ∀ {cs : List Int}, m ∈ cs → cs[ix m cs]? = some m
  | [], h => by cases h
  | x :: xs, h => by
    unfold ix
    by_cases e : x = m
    · rw [if_pos e, e]; rfl
    · rw [if_neg e, List.getElem?_cons_succ]
      exact ix_get ((List.mem_cons.mp h).resolve_left fun z => e z.symm)
theorem ix_first {m : Int} : ∀ {cs : List Int} {k : Nat} {z : Int}, k < ix m cs → cs[k]? = some z → z ≠ m
  | [], k, z, h, e => by cases e
  | x :: xs, k, z, h, e => by
    unfold ix at h
    by_cases q : x = m
    · rw [if_pos q] at h; omega
    · rw [if_neg q] at h
      cases k with
      | zero => exact fun r => q ((Option.some.inj e).trans r)
      | succ k => exact ix_first (m := m) (cs := xs) (k := k) (by omega) (by simpa using e)
/-- the least item -/
def mn : List Int → Int
  | [] => 0
  | [x] => x
  | x :: y :: r => if x ≤ mn (y :: r) then x else mn (y :: r)
theorem mn_spec : ∀ {cs : List Int}, cs ≠ [] → mn cs ∈ cs ∧ ∀ y ∈ cs, mn cs ≤ y
  | [], h => absurd rfl h
  | [x], _ => ⟨List.mem_singleton.mpr rfl, fun y hy => by rw [List.mem_singleton.mp hy]; exact Int.le_refl _⟩
  | x :: y :: r, _ => by
    have ih := mn_spec (cs := y :: r) (by simp)
    show (if x ≤ mn (y :: r) then x else mn (y :: r)) ∈ _ ∧ ∀ z ∈ x :: y :: r, (if x ≤ mn (y :: r) then x else mn (y :: r)) ≤ z
    by_cases h : x ≤ mn (y :: r)
    · rw [if_pos h]
      refine ⟨List.mem_cons_self, fun z hz => ?_⟩
      rcases List.mem_cons.mp hz with rfl | hz
      · exact Int.le_refl _
      · exact Int.le_trans h (ih.2 z hz)
    · rw [if_neg h]
      refine ⟨List.mem_cons_of_mem _ ih.1, fun z hz => ?_⟩
      rcases List.mem_cons.mp hz with rfl | hz
      · omega
      · exact ih.2 z hz
theorem mn_eq {cs : List Int} {m : Int} (h : m ∈ cs) (h2 : ∀ y ∈ cs, m ≤ y) : mn cs = m := by
  have hn : cs ≠ [] := fun e => by rw [e] at h; cases h
  have s := mn_spec hn
  exact Int.le_antisymm (s.2 m h) (h2 _ s.1)
/-- the left one, or the right one, of the lowest columns -/
def low (r : Bool) (cs : List Int) : Nat := if r = true then cs.length - 1 - ix (mn cs) cs.reverse else ix (mn cs) cs
theorem low_get {r : Bool} {cs : List Int} (h : cs ≠ []) : cs[low r cs]? = some (mn cs) := by
  have s := (mn_spec h).1
  unfold low
  cases r with
  | false => rw [if_neg (by simp)]; exact ix_get s
  | true =>
    rw [if_pos rfl]
    have g := ix_get (cs := cs.reverse) (List.mem_reverse.mpr s)
    have l := (List.getElem?_eq_some_iff.mp g).1
    rw [List.getElem?_reverse (by simpa using l)] at g
    exact g
theorem low_lt {r : Bool} {cs : List Int} (h : cs ≠ []) : low r cs < cs.length := (List.getElem?_eq_some_iff.mp (low_get h)).1
/-- one card -/
def put (r : Bool) (s : List (Nat × Int) × List Int) (h : Int) : List (Nat × Int) × List Int :=
  (s.1 ++ [(low r s.2, mn s.2)], s.2.set (low r s.2) (mn s.2 + h))
/-- the places (column, top) of the cards, the columns behind them -/
def play (r : Bool) (cs hs : List Int) : List (Nat × Int) × List Int := hs.foldl (put r) ([], cs)
theorem play_snoc (r : Bool) (cs hs : List Int) (h : Int) : play r cs (hs ++ [h]) = put r (play r cs hs) h := by
  unfold play
  rw [List.foldl_append]
  rfl
theorem play_take {r : Bool} {cs hs : List Int} {i : Nat} {h : Int} (e : hs[i]? = some h) : play r cs (hs.take (i + 1)) = put r (play r cs (hs.take i)) h := by
  rw [List.take_add_one, e]
  exact play_snoc r cs _ h
theorem fold_len2 (r : Bool) : ∀ (hs : List Int) (s : List (Nat × Int) × List Int), (hs.foldl (put r) s).2.length = s.2.length ∧ (hs.foldl (put r) s).1.length = s.1.length + hs.length
  | [], s => ⟨rfl, rfl⟩
  | h :: hs, s => by
    have q := fold_len2 r hs (put r s h)
    refine ⟨q.1.trans (List.length_set ..), q.2.trans ?_⟩
    show (s.1 ++ [_]).length + hs.length = s.1.length + (hs.length + 1)
    rw [List.length_append]
    simp only [List.length_cons, List.length_nil]
    omega
theorem play_cols (r : Bool) (cs hs : List Int) : (play r cs hs).2.length = cs.length := (fold_len2 r hs _).1
theorem play_len (r : Bool) (cs hs : List Int) : (play r cs hs).1.length = hs.length := by
  have := (fold_len2 r hs ([], cs)).2
  simpa [play] using this
theorem ixN_nat {n j : Nat} (h : j < n) : L2.ixN n (j : Int) = some j := by
  unfold L2.ixN
  rw [if_pos (by omega), if_pos (by omega)]
  rfl
theorem play_append (r : Bool) (cs xs ys : List Int) : play r cs (xs ++ ys) = ys.foldl (put r) (play r cs xs) := List.foldl_append ..
theorem fold_pre (r : Bool) : ∀ (hs : List Int) (s : List (Nat × Int) × List Int), ∃ t, (hs.foldl (put r) s).1 = s.1 ++ t
  | [], s => ⟨[], (List.append_nil _).symm⟩
  | h :: hs, s => by
    obtain ⟨t, e⟩ := fold_pre r hs (put r s h)
    refine ⟨(low r s.2, mn s.2) :: t, e.trans ?_⟩
    show (s.1 ++ [_]) ++ t = _
    rw [List.append_assoc]
    rfl
/-- the i-th place is found by the first i cards -/
theorem play_at {r : Bool} {cs hs : List Int} {i : Nat} {h : Int} (e : hs[i]? = some h) : (play r cs hs).1[i]? = some (low r (play r cs (hs.take i)).2, mn (play r cs (hs.take i)).2) := by
  have il : i < hs.length := (List.getElem?_eq_some_iff.mp e).1
  have e1 : hs = hs.take (i + 1) ++ hs.drop (i + 1) := (List.take_append_drop _ _).symm
  obtain ⟨t, et⟩ := fold_pre r (hs.drop (i + 1)) (play r cs (hs.take (i + 1)))
  have e2 : (play r cs hs).1 = (play r cs (hs.take (i + 1))).1 ++ t := by
    conv => lhs; rw [e1, play_append]
    exact et
  have l1 : (play r cs (hs.take i)).1.length = i := by
    have := (fold_len2 r (hs.take i) ([], cs)).2
    simp only [play] at this ⊢
    rw [this, List.length_take]
    simp only [List.length_nil]
    omega
  rw [e2, play_take e]
  show ((play r cs (hs.take i)).1 ++ [_] ++ t)[i]? = _
  rw [List.append_assoc, List.getElem?_append_right (by omega), l1, Nat.sub_self]
  rfl
/-- the tops, the end -/
def tops (cs hs : List Int) : List Int := (play false cs hs).1.map (·.2)
def ends (cs hs : List Int) : List Int := (play false cs hs).2
theorem tops_len (cs hs : List Int) : (tops cs hs).length = hs.length := by
  unfold tops
  rw [List.length_map, play_len]
theorem play_ne {r : Bool} {cs hs : List Int} (h : cs ≠ []) : (play r cs hs).2 ≠ [] := fun e => h (List.length_eq_zero_iff.mp (by rw [← play_cols r cs hs, e]; rfl))
end Lc

namespace Lc
open PySem PySem.Spec PyProof.Rows L2
/-- data of depth at most k and N items at most, ints of at most 90 digits -/
structure Nc (k N : Nat) (d : PyData) : Prop where
  sh : d.showable = true
  cl : d.canLay0 = true
  dp : d.depth ≤ k
  lf : d.leavesShort 100 = true
  bk : d.bulk ≤ N
theorem nc_int {i : Int} (h : i.natAbs < 10 ^ 90) : Nc 0 0 (.int i) := by
  refine ⟨?_, rfl, Nat.le_refl _, ?_, Nat.le_refl _⟩
  · show decide (i.natAbs.log2 < 1920) = true
    have e : (10 : Nat) ^ 90 ≤ 2 ^ 1000 := by decide +kernel
    exact decide_eq_true (Nat.lt_trans (PySem.Flt.log2_lt_of (by decide) (Nat.lt_of_lt_of_le h e)) (by decide))
  · simp only [PyData.leavesShort, decide_eq_true_eq]
    have := int_text_length_le10 (a := i) (k := 90) (by decide) h
    show (Str.ofString (toString i)).length ≤ 100
    rw [PySem.ofString_length]
    omega
theorem nc_all {k N : Nat} : ∀ {ds : List PyData}, (∀ d ∈ ds, Nc k N d) → PyData.showableAll ds = true ∧ PyData.canLayAll0 ds = true ∧ PyData.depthAll ds ≤ k ∧ PyData.leavesShortAll 100 ds = true ∧ PyData.bulkAll ds ≤ ds.length * (N + 1)
  | [], _ => ⟨rfl, rfl, Nat.zero_le _, rfl, Nat.zero_le _⟩
  | d :: ds, h => by
    have h1 := h d List.mem_cons_self
    obtain ⟨a, b, c, e, f⟩ := nc_all fun x hx => h x (List.mem_cons_of_mem d hx)
    refine ⟨?_, ?_, ?_, ?_, ?_⟩
    · simp only [PyData.showableAll, h1.sh, a, Bool.and_self]
    · simp only [PyData.canLayAll0, h1.cl, b, Bool.and_self]
    · simp only [PyData.depthAll]
      exact Nat.max_le.mpr ⟨h1.dp, c⟩
    · simp only [PyData.leavesShortAll, h1.lf, e, Bool.and_self]
    · simp only [PyData.bulkAll, List.length_cons]
      have := h1.bk
      rw [Nat.add_mul]
      omega
theorem nc_list {k N : Nat} {ds : List PyData} (h : ∀ d ∈ ds, Nc k N d) : Nc (k + 1) (ds.length * (N + 1)) (.list ds) := by
  obtain ⟨a, b, c, e, f⟩ := nc_all h
  refine ⟨by simpa only [PyData.showable] using a, by simpa only [PyData.canLay0] using b, ?_, by simpa only [PyData.leavesShort] using e, by simpa only [PyData.bulk] using f⟩
  simp only [PyData.depth]
  omega
theorem nc_tup {k N : Nat} {ds : List PyData} (h : ∀ d ∈ ds, Nc k N d) : Nc (k + 1) (ds.length * (N + 1)) (.tuple ds) := by
  obtain ⟨a, b, c, e, f⟩ := nc_all h
  refine ⟨by simpa only [PyData.showable] using a, by simpa only [PyData.canLay0] using b, ?_, by simpa only [PyData.leavesShort] using e, by simpa only [PyData.bulk] using f⟩
  simp only [PyData.depth]
  omega
theorem Nc.mono {k N k' N' : Nat} {d : PyData} (h : Nc k N d) (h1 : k ≤ k') (h2 : N ≤ N') : Nc k' N' d := ⟨h.sh, h.cl, Nat.le_trans h.dp h1, h.lf, Nat.le_trans h.bk h2⟩
theorem Nc.nice {k N : Nat} {d : PyData} (h : Nc k N d) (h1 : k ≤ 40) (h2 : N ≤ 100000) : Nice d :=
  ⟨h.sh, PyData.hasDict_of_canLay d h.cl, Nat.le_trans h.dp h1, h.lf, Nat.le_trans h.bk h2⟩
theorem Nc.shaped {k N : Nat} {d : PyData} (h : Nc k N d) (h1 : k ≤ 40) : SeqAt.shaped d = true := by
  unfold SeqAt.shaped
  rw [h.cl, Bool.true_and]
  exact decide_eq_true (Nat.le_trans h.dp (by omega))
theorem nc_ints {ns : List Int} {N : Nat} (h : ∀ n ∈ ns, n.natAbs < 10 ^ 90) (hl : ns.length ≤ N) : Nc 1 N (.list (ns.map PyData.int)) := by
  have q := nc_list (k := 0) (N := 0) (ds := ns.map PyData.int) fun d hd => by
    obtain ⟨n, hn, rfl⟩ := List.mem_map.mp hd
    exact nc_int (h n hn)
  rw [List.length_map] at q
  exact q.mono (by decide) (by omega)
/-- any list of ints is data that == reads -/
theorem shapedInts (ns : List Int) : SeqAt.shaped (.list (ns.map PyData.int)) = true := by
  have a : ∀ ns : List Int, PyData.canLayAll0 (ns.map PyData.int) = true ∧ PyData.depthAll (ns.map PyData.int) = 0 := fun ns => by
    induction ns with
    | nil => exact ⟨rfl, rfl⟩
    | cons n ns ih => exact ⟨by simp only [List.map_cons, PyData.canLayAll0, PyData.canLay0, ih.1, Bool.and_self], by simp only [List.map_cons, PyData.depthAll, PyData.depth, ih.2]; rfl⟩
  unfold SeqAt.shaped
  simp only [PyData.canLay0, PyData.depth, (a ns).1, (a ns).2]
  decide
theorem dpInts {K : PySem.W.Frag} {H : Hp} : ∀ ns : List Int, DpAll K H (ns.map V.int) (ns.map PyData.int)
  | [] => .nil
  | n :: ns => .cons (.int n) (dpInts ns)
end Lc

namespace Lc
open PySem PySem.Spec PyProof.Rows L2
/-! columns as sorted lists -/
def Sorted (l : List Int) : Prop := l.Pairwise (· ≤ ·)
theorem set_perm : ∀ (ls : List Int) (j : Nat) (v : Int), j < ls.length → (ls.set j v).Perm (v :: ls.eraseIdx j)
  | [], _, _, h => absurd h (by simp)
  | _ :: _, 0, _, _ => List.Perm.refl _
  | x :: ls, j + 1, v, h => by
    have h' : j < ls.length := by simpa using h
    show (x :: ls.set j v).Perm (v :: x :: ls.eraseIdx j)
    exact ((set_perm ls j v h').cons x).trans (List.Perm.swap v x _)
theorem erase_perm : ∀ (ls : List Int) (j : Nat) (x : Int), ls[j]? = some x → (x :: ls.eraseIdx j).Perm ls
  | [], _, _, h => by cases h
  | y :: _, 0, x, h => by cases h; exact List.Perm.refl _
  | y :: ls, j + 1, x, h => by
    have h' : ls[j]? = some x := by simpa using h
    show (x :: y :: ls.eraseIdx j).Perm (y :: ls)
    exact (List.Perm.swap y x _).trans ((erase_perm ls j x h').cons y)
theorem sorted_head {x : Int} {l cs : List Int} (s : Sorted (x :: l)) (p : (x :: l).Perm cs) : mn cs = x :=
  mn_eq (p.subset List.mem_cons_self) fun y hy => by
    rcases List.mem_cons.mp (p.symm.subset hy) with rfl | h
    · exact Int.le_refl _
    · exact (List.pairwise_cons.mp s).1 y h
/-- one card, by the sorted columns -/
theorem put_sorted {r : Bool} {st : List (Nat × Int) × List Int} {x h : Int} {l l' : List Int} (s : Sorted (x :: l)) (p : (x :: l).Perm st.2) (q : l'.Perm ((x + h) :: l)) : l'.Perm (put r st h).2 := by
  have hne : st.2 ≠ [] := fun e => by rw [e] at p; exact absurd p.length_eq (by simp)
  have em := sorted_head s p
  have g := low_get (r := r) hne
  show l'.Perm (st.2.set (low r st.2) (mn st.2 + h))
  rw [em] at g ⊢
  refine q.trans ((List.Perm.cons _ ?_).trans (set_perm _ _ _ (low_lt hne)).symm)
  exact List.Perm.cons_inv (p.trans (erase_perm _ _ _ g).symm)
/-- a height put back at its place -/
theorem sorted_ins {h : Int} {l : List Int} {k : Nat} (s : Sorted l) (hlt : ∀ j z, j < k → l[j]? = some z → z < h) (hge : ∀ z, l[k]? = some z → h ≤ z) : Sorted (l.take k ++ [h] ++ l.drop k) := by
  have s1 : Sorted (l.take k) := s.sublist (List.take_sublist ..)
  have s2 : Sorted (l.drop k) := s.sublist (List.drop_sublist ..)
  have lo : ∀ z ∈ l.take k, z < h := fun z hz => by
    obtain ⟨j, hj, e⟩ := List.getElem_of_mem hz
    have hjk : j < k := by rw [List.length_take] at hj; omega
    refine hlt j z hjk ?_
    have := List.getElem?_eq_getElem hj
    rw [e, List.getElem?_take_of_lt hjk] at this
    exact this
  have hi : ∀ z ∈ l.drop k, h ≤ z := fun z hz => by
    cases e : l.drop k with
    | nil => rw [e] at hz; cases hz
    | cons y ys =>
      have hy : h ≤ y := by
        refine hge y ?_
        have := congrArg (·[0]?) e
        simpa [List.getElem?_drop] using this
      rw [e] at hz s2
      rcases List.mem_cons.mp hz with rfl | hz
      · exact hy
      · exact Int.le_trans hy ((List.pairwise_cons.mp s2).1 z hz)
  refine List.pairwise_append.mpr ⟨List.pairwise_append.mpr ⟨s1, List.pairwise_singleton _ _, fun a ha b hb => ?_⟩, s2, fun a ha b hb => ?_⟩
  · rw [List.mem_singleton.mp hb]
    exact Int.le_of_lt (lo a ha)
  · rcases List.mem_append.mp ha with ha | ha
    · exact Int.le_trans (Int.le_of_lt (lo a ha)) (hi b hb)
    · rw [List.mem_singleton.mp ha]; exact hi b hb
theorem ins_perm (l : List Int) (k : Nat) (h : Int) : (l.take k ++ [h] ++ l.drop k).Perm (h :: l) := by
  have e : (l.take k ++ [h] ++ l.drop k).Perm (h :: (l.take k ++ l.drop k)) := by
    rw [List.append_assoc]
    exact List.perm_middle
  rwa [List.take_append_drop] at e
theorem sorted_uniq : ∀ {a b : List Int}, Sorted a → Sorted b → a.Perm b → a = b
  | [], b, _, _, p => (List.Perm.nil_eq p)
  | x :: a, [], _, _, p => absurd p.length_eq (by simp)
  | x :: a, y :: b, sa, sb, p => by
    have e : y = x := by
      have h1 := sorted_head sa p
      have h2 := sorted_head sb p.symm
      have m1 := (mn_spec (cs := y :: b) (by simp))
      have m2 := (mn_spec (cs := x :: a) (by simp))
      have e1 : mn (x :: a) = mn (y :: b) := mn_eq (p.symm.subset m1.1) fun z hz => m1.2 z (p.subset hz)
      exact h2.symm.trans (e1.trans h1)
    subst e
    rw [sorted_uniq (List.pairwise_cons.mp sa).2 (List.pairwise_cons.mp sb).2 (List.Perm.cons_inv p)]
/-- slices -/
theorem cut_from {xs : List Int} {k : Nat} (h : k ≤ xs.length) : cutV (xs.map V.int) (some (k : Int)) none = (xs.drop k).map V.int := by
  unfold cutV
  rw [HT.sIx_nat, HT.sIx_none, List.length_map, Nat.min_eq_left h, ← List.map_drop, ← List.map_take, List.take_of_length_le (by rw [List.length_drop]; omega)]
theorem cut_to {xs : List Int} {k : Nat} (h : k ≤ xs.length) : cutV (xs.map V.int) none (some (k : Int)) = (xs.take k).map V.int := by
  unfold cutV
  rw [HT.sIx_nat, HT.sIx_none, List.length_map, Nat.min_eq_left h, ← List.map_drop, ← List.map_take]
  rfl
theorem cut_mid {xs : List Int} {i k : Nat} (h : k ≤ xs.length) (h2 : i ≤ k) : cutV (xs.map V.int) (some (i : Int)) (some (k : Int)) = ((xs.drop i).take (k - i)).map V.int := by
  unfold cutV
  rw [HT.sIx_nat, HT.sIx_nat, List.length_map, Nat.min_eq_left h, Nat.min_eq_left (by omega), ← List.map_drop, ← List.map_take]
end Lc

namespace Lc
open PySem PySem.Spec PyProof.Rows L2
theorem mn_perm {a b : List Int} (h : a ≠ []) (p : a.Perm b) : mn a = mn b := by
  have m := mn_spec (cs := b) (fun e => h (by rw [e] at p; exact p.eq_nil))
  exact mn_eq (p.symm.subset m.1) fun y hy => m.2 y (p.subset hy)
theorem put_cols (r : Bool) (s : List (Nat × Int) × List Int) (h : Int) (hne : s.2 ≠ []) : ∃ l, (mn s.2 :: l).Perm s.2 ∧ (put r s h).2.Perm ((mn s.2 + h) :: l) :=
  ⟨s.2.eraseIdx (low r s.2), erase_perm _ _ _ (low_get hne), set_perm _ _ _ (low_lt hne)⟩
theorem put_ne {r : Bool} {s : List (Nat × Int) × List Int} {h : Int} (hne : s.2 ≠ []) : (put r s h).2 ≠ [] := fun e => hne (by
  have : (s.2.set (low r s.2) (mn s.2 + h)).length = 0 := by show ((put r s h).2).length = 0; rw [e]; rfl
  rw [List.length_set] at this
  exact List.length_eq_zero_iff.mp this)
/-- the order of the columns, and the side, change no top and no height at the end -/
theorem fold_perm (r r' : Bool) : ∀ (hs : List Int) (s s' : List (Nat × Int) × List Int), s.2 ≠ [] → s.2.Perm s'.2 → s.1.map (·.2) = s'.1.map (·.2) →
    (hs.foldl (put r) s).1.map (·.2) = (hs.foldl (put r') s').1.map (·.2) ∧ (hs.foldl (put r) s).2.Perm (hs.foldl (put r') s').2
  | [], s, s', _, p, e => ⟨e, p⟩
  | h :: hs, s, s', hne, p, e => by
    have hne' : s'.2 ≠ [] := fun z => hne (by rw [z] at p; exact p.eq_nil)
    have em := mn_perm hne p
    obtain ⟨l, p1, p2⟩ := put_cols r s h hne
    obtain ⟨l', p1', p2'⟩ := put_cols r' s' h hne'
    have pl : l.Perm l' := List.Perm.cons_inv (a := mn s.2) (p1.trans (p.trans (by rw [em]; exact p1'.symm)))
    refine fold_perm r r' hs (put r s h) (put r' s' h) (put_ne hne) (p2.trans ((pl.cons _).trans ?_)) ?_
    · rw [em]; exact p2'.symm
    · show (s.1 ++ [(low r s.2, mn s.2)]).map (·.2) = (s'.1 ++ [(low r' s'.2, mn s'.2)]).map (·.2)
      rw [List.map_append, List.map_append, e, em]
      rfl
theorem tops_perm {cs os hs : List Int} (hne : cs ≠ []) (p : os.Perm cs) : tops os hs = tops cs hs :=
  (fold_perm false false hs ([], os) ([], cs) (fun e => hne (by have e' : os = [] := e; rw [e'] at p; exact p.nil_eq.symm)) p rfl).1
theorem ends_perm {cs os hs : List Int} (hne : cs ≠ []) (p : os.Perm cs) : (ends os hs).Perm (ends cs hs) :=
  (fold_perm false false hs ([], os) ([], cs) (fun e => hne (by have e' : os = [] := e; rw [e'] at p; exact p.nil_eq.symm)) p rfl).2
/-- tops never descend -/
theorem fold_sorted (r : Bool) : ∀ (hs : List Int) (s : List (Nat × Int) × List Int), s.2 ≠ [] → (∀ h ∈ hs, 0 ≤ h) → Sorted (s.1.map (·.2)) → (∀ t ∈ s.1.map (·.2), t ≤ mn s.2) → Sorted ((hs.foldl (put r) s).1.map (·.2))
  | [], s, _, _, so, _ => so
  | h :: hs, s, hne, hp, so, le => by
    obtain ⟨l, p1, p2⟩ := put_cols r s h hne
    have h0 := hp h List.mem_cons_self
    have m0 := mn_spec hne
    have m1 := mn_spec (put_ne (r := r) (h := h) hne)
    have up : mn s.2 ≤ mn (put r s h).2 := by
      rcases List.mem_cons.mp (p2.subset m1.1) with e | e
      · rw [e]; omega
      · exact m0.2 _ (p1.subset (List.mem_cons_of_mem _ e))
    have e1 : (put r s h).1.map (·.2) = s.1.map (·.2) ++ [mn s.2] := by
      show (s.1 ++ [(low r s.2, mn s.2)]).map (·.2) = _
      rw [List.map_append]; rfl
    refine fold_sorted r hs (put r s h) (put_ne hne) (fun x hx => hp x (List.mem_cons_of_mem _ hx)) ?_ ?_
    · rw [e1]
      refine List.pairwise_append.mpr ⟨so, List.pairwise_singleton _ _, fun a ha b hb => ?_⟩
      rw [List.mem_singleton.mp hb]
      exact le a ha
    · rw [e1]
      intro t ht
      rcases List.mem_append.mp ht with ht | ht
      · exact Int.le_trans (le t ht) up
      · rw [List.mem_singleton.mp ht]; exact up
theorem tops_sorted {cs hs : List Int} (hne : cs ≠ []) (hp : ∀ h ∈ hs, 0 ≤ h) : Sorted (tops cs hs) :=
  fold_sorted false hs ([], cs) hne hp List.Pairwise.nil fun t ht => by cases ht
/-- how high the columns, the tops, get -/
theorem fold_high (r : Bool) (B : Int) : ∀ (hs : List Int) (s : List (Nat × Int) × List Int) (M : Int), s.2 ≠ [] → (∀ h ∈ hs, 0 ≤ h ∧ h ≤ B) → (∀ c ∈ s.2, 0 ≤ c ∧ c ≤ M) → (∀ t ∈ s.1.map (·.2), 0 ≤ t ∧ t ≤ M) → 0 ≤ B →
    (∀ c ∈ (hs.foldl (put r) s).2, 0 ≤ c ∧ c ≤ M + hs.length * B) ∧ ∀ t ∈ (hs.foldl (put r) s).1.map (·.2), 0 ≤ t ∧ t ≤ M + hs.length * B
  | [], s, M, _, _, hc, ht, hB => ⟨fun c h => by have := hc c h; simp; omega, fun t h => by have := ht t h; simp; omega⟩
  | h :: hs, s, M, hne, hp, hc, ht, hB => by
    obtain ⟨l, p1, p2⟩ := put_cols r s h hne
    have h0 := hp h List.mem_cons_self
    have m0 := hc _ (mn_spec hne).1
    have q := fold_high r B hs (put r s h) (M + B) (put_ne hne) (fun x hx => hp x (List.mem_cons_of_mem _ hx)) (fun c hcm => ?_) (fun t htm => ?_) hB
    · have e : M + ((h :: hs).length : Nat) * B = M + B + (hs.length : Nat) * B := by
        rw [List.length_cons]
        have : (((hs.length + 1 : Nat)) : Int) * B = (hs.length : Int) * B + B := by
          rw [Int.natCast_add, Int.add_mul]; simp
        rw [this]; omega
      rw [e]
      exact q
    · rcases List.mem_cons.mp (p2.subset hcm) with e | e
      · rw [e]; omega
      · have := hc c (p1.subset (List.mem_cons_of_mem _ e)); omega
    · have e1 : (put r s h).1.map (·.2) = s.1.map (·.2) ++ [mn s.2] := by
        show (s.1 ++ [(low r s.2, mn s.2)]).map (·.2) = _
        rw [List.map_append]; rfl
      rw [e1] at htm
      rcases List.mem_append.mp htm with htm | htm
      · have := ht t htm; omega
      · rw [List.mem_singleton.mp htm]; omega
theorem nat_pow_big {n : Int} (h0 : 0 ≤ n) (h1 : n ≤ 1000000000000000000000000000000000) : n.natAbs < 10 ^ 90 := by
  have e : (10 : Nat) ^ 40 = 10000000000000000000000000000000000000000 := by decide +kernel
  have h3 : n.natAbs < 10 ^ 40 := by rw [e]; omega
  exact Nat.lt_of_lt_of_le h3 (Nat.pow_le_pow_right (by decide) (by decide))
theorem play_high {r : Bool} {cs hs : List Int} (hne : cs ≠ []) (hc : ∀ c ∈ cs, 0 ≤ c ∧ c ≤ 1000000000000000000000000000000) (hh : ∀ h ∈ hs, 1 ≤ h ∧ h ≤ 1000000000000000000000000000000) (hl : hs.length ≤ 200) :
    (∀ c ∈ (play r cs hs).2, c.natAbs < 10 ^ 90) ∧ ∀ t ∈ (play r cs hs).1.map (·.2), t.natAbs < 10 ^ 90 := by
  have q := fold_high r 1000000000000000000000000000000 hs ([], cs) 1000000000000000000000000000000 hne (fun h hm => by have := hh h hm; omega) hc (fun t ht => by cases ht) (by decide)
  have hb : 1000000000000000000000000000000 + (hs.length : Int) * 1000000000000000000000000000000 ≤ 1000000000000000000000000000000000 := by omega
  exact ⟨fun c h => by have := q.1 c h; exact nat_pow_big this.1 (Int.le_trans this.2 hb), fun t h => by have := q.2 t h; exact nat_pow_big this.1 (Int.le_trans this.2 hb)⟩
end Lc

namespace Lc
open PySem PySem.Spec PyProof.Rows L2
/-- a comprehension over enumerate of a list -/
theorem lc_enum {K : PySem.W.Frag} {a D : Addr} {xs : List V} {g : TG} {tt : TT} {te : TE} {vs : List Nat} {σ : L2.St} {H0 : Hp} {Qd : Hp → Prop}
    (Pv : Nat → Hp → Prop) (h0 : Pv 0 (upd H0 D (.lst []))) (hl : ∀ i H, i ≤ xs.length → Pv i H → SqL K H a xs)
    (hs : ∀ i x H T, xs[i]? = some x → Pv i H → H T = none → g (.ref T) (wipe σ vs) (upd H T (.tup [.int (i : Nat), x])) fun σ2 H2 =>
      wipe σ2 vs = wipe σ vs ∧ tt σ2 H2 fun b H3 => if b = true then te σ2 H3 fun y H4 => ∃ acc, H4 D = some (.lst acc) ∧ acc.length < sizeLine ∧ Pv (i + 1) (upd H4 D (.lst (acc ++ [y]))) else Pv (i + 1) H3)
    (hd : ∀ H, Pv xs.length H → Qd H) :
    ∃ W : Nat → Nat → Hp → Prop, (∃ m, W 0 m (upd H0 D (.lst []))) ∧ ∀ i m H, W i m H →
      (((Ite K a).stop i H ∧ Qd H) ∨ ((Ite K a).go i H ∧ ∃ Nx : Hp → Prop, (∀ H', Nx H' → ∃ m', m' < m ∧ W (i + 1) m' H') ∧
        ∀ x H', (Ite K a).yld i H x H' → g x (wipe σ vs) H' fun σ2 H2 => wipe σ2 vs = wipe σ vs ∧ tt σ2 H2 fun b H3 =>
          if b = true then te σ2 H3 fun y H4 => ∃ acc, H4 D = some (.lst acc) ∧ acc.length < sizeLine ∧ Nx (upd H4 D (.lst (acc ++ [y]))) else Nx H3)) := by
  refine ⟨fun i m H => m + i = xs.length ∧ Pv i H, ⟨xs.length, rfl, h0⟩, fun i m H hW => ?_⟩
  obtain ⟨em, p⟩ := hW
  have q := hl i H (by omega) p
  by_cases h : i < xs.length
  · refine .inr ⟨⟨xs, xs[i], q, List.getElem?_eq_getElem h⟩, Pv (i + 1), fun H' p' => ⟨m - 1, by omega, by omega, p'⟩, fun v H' y => ?_⟩
    obtain ⟨T, x, e1, nT, e2, hx⟩ := y
    subst e1
    subst e2
    exact hs i x H T (hx xs q) p nT
  · have e : i = xs.length := by omega
    subst e
    exact .inl ⟨⟨xs, q, Nat.le_refl _⟩, hd H p⟩
/-- min of a list of pairs of ints that an int of each pair orders -/
def PairAt (H : Hp) (v : V) (p : Int × Int) : Prop := ∃ q, v = .ref q ∧ H q = some (.tup [.int p.1, .int p.2])
def rMinP (K : PySem.W.Frag) : List V → Hp → VK → Prop := fun vs H Q => ∃ (a : Addr) (items : List V) (ps : List (Int × Int)) (f : Int × Int → Int), vs = [V.ref a] ∧ SqL K H a items ∧ items.length = ps.length ∧ 0 < ps.length ∧
  (∀ (i : Nat) (v : V) (p : Int × Int), items[i]? = some v → ps[i]? = some p → PairAt H v p) ∧
  (∀ p p', p ∈ ps → p' ∈ ps → HT.lexLt [p.1, p.2] [p'.1, p'.2] = decide (f p < f p')) ∧
  ∀ (i : Nat) (q : Addr) (p : Int × Int), items[i]? = some (.ref q) → ps[i]? = some p → H q = some (.tup [.int p.1, .int p.2]) → (∀ p' ∈ ps, f p ≤ f p') → Q (.ref q) H
theorem cr_minP {X : Cx} (hc : X.calm = true) (hu : X.A.units + 64 < cLine) : CallR X (.builtin "min") (rMinP X.K) := by
  intro pins s σ H vs us Q I r h
  obtain ⟨a, items, ps, f, rfl, hs, hlen, hpos, hp, hf, q⟩ := h
  obtain ⟨its, rv, pl, _⟩ := I.list hs
  obtain ⟨u, rfl, ru⟩ := vals1 r
  obtain rfl : u = Value.ref a := ru
  have hl := pl.isList
  have at_ : ∀ (i : Nat) (v : Value), its.toArray[i]? = some v → ∃ q p, v = .ref q ∧ ps[i]? = some p ∧ H q = some (.tup [.int p.1, .int p.2]) := fun i v e => by
    have e' : its[i]? = some v := by simpa using e
    have hi : i < items.length := by rw [rv.length]; exact (List.getElem?_eq_some_iff.mp e').1
    obtain ⟨u, hu', ru⟩ := rv.get (List.getElem?_eq_getElem hi)
    rw [e'] at hu'
    cases hu'
    obtain ⟨q, eq, hq⟩ := hp i _ _ (List.getElem?_eq_getElem hi) (List.getElem?_eq_getElem (by omega))
    rw [eq] at ru
    exact ⟨q, _, ru, List.getElem?_eq_getElem (by omega), hq⟩
  have hsz : its.toArray.size = ps.length := by rw [List.size_toArray, ← rv.length, hlen]
  refine PySem.call_min_walkH (iter_any hl fun s₂ e2 st hne => ?_)
  subst e2
  have W := (Walks.list (prog := X.prog) (w := X.w) (A := X.A.in1) (I.ok.hd hc) s.heap.objs.size a hne its.toArray).toS
  refine ⟨_, _, _, _, _, _, _, s.heap, fun i j => decide (f (ps.getD i (0, 0)) < f (ps.getD j (0, 0))), rfl, W, st, ?_, by rw [hsz]; exact hpos, ?_, ?_, ?_, fun v s' hP hm => ?_⟩
  · intro b hb
    simp only [List.mem_cons, List.not_mem_nil, or_false] at hb
    rcases hb with rfl | rfl
    · simp [Heap.push]
    · exact Nat.lt_of_lt_of_le (by obtain ⟨_, e, _⟩ := hl; exact Heap.lt_size e) (by simp [Heap.push])
  · intro b o e hb
    rw [List.mem_singleton.mp hb] at e
    exact Nat.lt_irrefl _ (Heap.lt_size e)
  · intro b o e
    exact Heap.get?_push_of_some _ e
  · intro i j vi vj s1 Q1 E1 hk ei ej hq
    obtain ⟨q1, p1, rfl, ep1, h1⟩ := at_ i vi ei
    obtain ⟨q2, p2, rfl, ep2, h2⟩ := at_ j vj ej
    obtain ⟨_, t1, r1, o1, g1, c1⟩ := (show ObjOk X.prog X.w H s.heap q1 (.tup _) from I.hok q1 _ h1)
    obtain ⟨_, t2, r2, o2, g2, c2⟩ := (show ObjOk X.prog X.w H s.heap q2 (.tup _) from I.hok q2 _ h2)
    have i1 : IntsAre t1.toArray.toList [p1.1, p1.2] := intsAre_of r1
    have i2 : IntsAre t2.toArray.toList [p2.1, p2.2] := intsAre_of r2
    have m1 : p1 ∈ ps := List.mem_of_getElem? ep1
    have m2 : p2 ∈ ps := List.mem_of_getElem? ep2
    show wpAny _ _ (compareOp .Lt (.ref q1) (.ref q2)) Q1 E1 s1
    refine HT.lt_tupInts ⟨o1, hk _ _ g1, c1⟩ ⟨o2, hk _ _ g2, c2⟩ i1 i2 (by show X.A.units + 1 < cLine; omega) ?_
    rw [hf p1 p2 m1 m2]
    have hq' : Q1 (Value.bool (decide (f (ps.getD i (0, 0)) < f (ps.getD j (0, 0))))) s1 := hq
    rw [List.getD_eq_getElem?_getD, List.getD_eq_getElem?_getD, ep1, ep2] at hq'
    exact hq'
  · obtain ⟨b1, b2⟩ := argBest_lt (fun i => f (ps.getD i (0, 0))) (its.toArray.size - 1)
    have hP' : its.toArray[argBest (fun i j => decide (f (ps.getD i (0, 0)) < f (ps.getD j (0, 0)))) (its.toArray.size - 1)]? = some v := hP
    generalize argBest (fun i j => decide (f (ps.getD i (0, 0)) < f (ps.getD j (0, 0)))) (its.toArray.size - 1) = k at hP' b1 b2
    obtain ⟨q1, p1, rfl, ep1, h1⟩ := at_ k v hP'
    have hit : items[k]? = some (.ref q1) := by
      have hk : k < items.length := by have := (List.getElem?_eq_some_iff.mp ep1).1; omega
      obtain ⟨q2, e2, h2⟩ := hp k _ _ (List.getElem?_eq_getElem hk) ep1
      obtain ⟨u, hu', ru⟩ := rv.get (List.getElem?_eq_getElem hk)
      have hP2 : its[k]? = some (Value.ref q1) := by simpa using hP'
      rw [hP2] at hu'
      cases hu'
      rw [e2] at ru
      have e3 : Value.ref q1 = Value.ref q2 := ru
      cases e3
      rw [List.getElem?_eq_getElem hk, e2]
    refine ⟨.ref q1, H, ?_, rfl, q k q1 p1 hit ep1 h1 fun p' hp' => ?_⟩
    · obtain ⟨h', g', d', t', o'⟩ := s'
      obtain ⟨m1, m2, m3, m4, m5⟩ := hm
      have e2 : g' = s.gens := m2
      have e3 : d' = s.drawn := m3
      have e4 : o' = s.os := m4
      subst e2 e3 e4
      refine I.kept fun b o e => m1 b o (fun hb => ?_) (Heap.get?_push_of_some _ e)
      rw [List.mem_singleton.mp hb] at e
      exact Nat.lt_irrefl _ (Heap.lt_size e)
    · obtain ⟨j, hj, e5⟩ := List.getElem_of_mem hp'
      have := b2 j (by omega)
      rw [List.getD_eq_getElem?_getD, List.getD_eq_getElem?_getD, ep1, List.getElem?_eq_getElem hj, e5] at this
      exact this
end Lc

namespace Lc
open PySem PySem.Spec PyProof.Rows L2
theorem low_char {r : Bool} {cs : List Int} {i : Nat} (h : cs[i]? = some (mn cs)) (h2 : ∀ j : Nat, cs[j]? = some (mn cs) → if r = true then j ≤ i else i ≤ j) : i = low r cs := by
  have hi : i < cs.length := (List.getElem?_eq_some_iff.mp h).1
  have hne : cs ≠ [] := fun e => by rw [e] at hi; simp at hi
  have g := low_get (r := r) hne
  have q := h2 _ g
  cases r with
  | false =>
    have q' : i ≤ low false cs := q
    by_cases e : i = low false cs
    · exact e
    · have lt : i < ix (mn cs) cs := by
        have : low false cs = ix (mn cs) cs := rfl
        omega
      exact absurd rfl (ix_first lt h)
  | true =>
    have q' : low true cs ≤ i := q
    by_cases e : i = low true cs
    · exact e
    · have el : low true cs = cs.length - 1 - ix (mn cs) cs.reverse := rfl
      have lt : cs.length - 1 - i < ix (mn cs) cs.reverse := by
        have := (List.getElem?_eq_some_iff.mp (ix_get (cs := cs.reverse) (List.mem_reverse.mpr (mn_spec hne).1))).1
        rw [List.length_reverse] at this
        omega
      have h3 : cs.reverse[cs.length - 1 - i]? = some (mn cs) := by
        rw [List.getElem?_reverse (by omega), show cs.length - 1 - (cs.length - 1 - i) = i by omega]
        exact h
      exact absurd rfl (ix_first lt h3)
/-- the pairs (height, side * place) of the columns -/
def prs (sd : Int) (cs : List Int) : List (Int × Int) := (List.range cs.length).map fun j => (cs.getD j 0, sd * (j : Int))
theorem prs_len (sd : Int) (cs : List Int) : (prs sd cs).length = cs.length := by unfold prs; rw [List.length_map, List.length_range]
theorem prs_get {sd : Int} {cs : List Int} {i : Nat} {p : Int × Int} (h : (prs sd cs)[i]? = some p) : ∃ c, cs[i]? = some c ∧ p = (c, sd * (i : Int)) := by
  have hi : i < cs.length := by rw [← prs_len sd cs]; exact (List.getElem?_eq_some_iff.mp h).1
  unfold prs at h
  rw [List.getElem?_map, List.getElem?_range hi] at h
  refine ⟨cs[i], List.getElem?_eq_getElem hi, ?_⟩
  have := Option.some.inj h
  rw [← this]
  show (cs.getD i 0, _) = _
  rw [List.getD_eq_getElem?_getD, List.getElem?_eq_getElem hi]
  rfl
theorem prs_at {sd : Int} {cs : List Int} {i : Nat} {c : Int} (h : cs[i]? = some c) : (prs sd cs)[i]? = some (c, sd * (i : Int)) := by
  have hi : i < cs.length := (List.getElem?_eq_some_iff.mp h).1
  unfold prs
  rw [List.getElem?_map, List.getElem?_range hi]
  show some (cs.getD i 0, _) = _
  rw [List.getD_eq_getElem?_getD, h]
  rfl
def ordP (p : Int × Int) : Int := p.1 * 64 + p.2
theorem side_abs {sd : Int} {j : Nat} (hs : sd = 1 ∨ sd = -1) (hj : j < 31) : -31 < sd * (j : Int) ∧ sd * (j : Int) < 31 := by
  rcases hs with rfl | rfl <;> omega
theorem lex_ord {a b c d : Int} (hb : -31 < b ∧ b < 31) (hd : -31 < d ∧ d < 31) : HT.lexLt [a, b] [c, d] = decide (ordP (a, b) < ordP (c, d)) := by
  show (if a = c then (if b = d then false else decide (b < d)) else decide (a < c)) = decide (a * 64 + b < c * 64 + d)
  by_cases h : a = c
  · rw [if_pos h]
    subst h
    by_cases h2 : b = d
    · rw [if_pos h2]; subst h2; exact (decide_eq_false (by omega)).symm
    · rw [if_neg h2]
      by_cases h3 : b < d
      · rw [decide_eq_true h3, decide_eq_true (by omega)]
      · rw [decide_eq_false h3, decide_eq_false (by omega)]
  · rw [if_neg h]
    by_cases h3 : a < c
    · rw [decide_eq_true h3, decide_eq_true (by omega)]
    · rw [decide_eq_false h3, decide_eq_false (by omega)]
theorem prs_ord {sd : Int} {cs : List Int} (hs : sd = 1 ∨ sd = -1) (hl : cs.length ≤ 30) {p p' : Int × Int} (h : p ∈ prs sd cs) (h' : p' ∈ prs sd cs) : HT.lexLt [p.1, p.2] [p'.1, p'.2] = decide (ordP p < ordP p') := by
  have rd : ∀ p ∈ prs sd cs, -31 < p.2 ∧ p.2 < 31 := fun p hp => by
    obtain ⟨j, hj, e⟩ := List.mem_map.mp hp
    rw [← e]
    exact side_abs hs (by have := List.mem_range.mp hj; omega)
  exact lex_ord (rd p h) (rd p' h')
/-- the least pair is that of the lowest column -/
theorem prs_low {sd : Int} {r : Bool} {cs : List Int} (hs : sd = 1 ∧ r = false ∨ sd = -1 ∧ r = true) (hl : cs.length ≤ 30) {i : Nat} {p : Int × Int} (h : (prs sd cs)[i]? = some p) (hm : ∀ p' ∈ prs sd cs, ordP p ≤ ordP p') :
    p = (mn cs, sd * ((low r cs : Nat) : Int)) := by
  obtain ⟨c, ec, rfl⟩ := prs_get h
  have hi : i < cs.length := (List.getElem?_eq_some_iff.mp ec).1
  have hs' : sd = 1 ∨ sd = -1 := hs.elim (fun h => .inl h.1) (fun h => .inr h.1)
  have ai := side_abs (j := i) hs' (by omega)
  have le : ∀ y ∈ cs, c ≤ y := fun y hy => by
    obtain ⟨j, hj, e⟩ := List.getElem_of_mem hy
    have aj := side_abs (j := j) hs' (by omega)
    have m := hm _ (List.mem_of_getElem? (prs_at (sd := sd) (List.getElem?_eq_getElem hj)))
    have m' : c * 64 + sd * (i : Int) ≤ cs[j] * 64 + sd * (j : Int) := m
    rw [← e]
    omega
  have em : mn cs = c := mn_eq (List.mem_of_getElem? ec) le
  have e : i = low r cs := by
    refine low_char (by rw [em]; exact ec) fun j hj => ?_
    rw [em] at hj
    have m := hm _ (List.mem_of_getElem? (prs_at (sd := sd) hj))
    have m' : c * 64 + sd * (i : Int) ≤ c * 64 + sd * (j : Int) := m
    rcases hs with ⟨rfl, rfl⟩ | ⟨rfl, rfl⟩
    · show i ≤ j; omega
    · show j ≤ i; omega
  rw [em, ← e]
theorem side_low {sd : Int} {r : Bool} {n : Nat} (hs : sd = 1 ∧ r = false ∨ sd = -1 ∧ r = true) : sd * (sd * (n : Int)) = (n : Int) := by
  rcases hs with ⟨rfl, _⟩ | ⟨rfl, _⟩ <;> omega
theorem eraseV : ∀ (ls : List Int) (j : Nat), (ls.map V.int).eraseIdx j = (ls.eraseIdx j).map V.int
  | [], _ => rfl
  | _ :: _, 0 => rfl
  | x :: ls, j + 1 => by
    show V.int x :: (ls.map V.int).eraseIdx j = V.int x :: (ls.eraseIdx j).map V.int
    rw [eraseV ls j]
end Lc

namespace Lc
open PySem PySem.Spec PyProof.Rows L2
/-! ### xs[a:c] = ys, the ends written or not -/
section
variable {prog : Program} {w : World} {A : Around} {E : Value → Shared → Prop} {s : Shared}
theorem setItem_cut {l b sl : Addr} {items new : Array Value} {n n2 : Nat} {vl vu : Value} {lo hi : Option Int} {a c : Nat} {Q : Unit → Shared → Prop}
    (e : s.heap.get? l = some { cls := .type "list", data := .seq items n })
    (e2 : s.heap.get? b = some { cls := .type "list", data := .seq new n2 }) (ne : l ≠ b) (hs : s.heap.IsSliceOf sl vl vu .none)
    (pl : IsPart vl lo) (pu : IsPart vu hi) (hbd : sliceBounds lo hi none items.size = ((a : Int), (c : Int), 1)) (hac : a ≤ c) (hc : c ≤ items.size)
    (hsz : items.size + new.size ≤ sizeLine)
    (h : Q () { s with heap := s.heap.update l (Obj.mapSeq fun xs => xs.extract 0 a ++ new ++ xs.extract c xs.size) }) :
    wpAny (model prog w) A (setItem (.ref l) (.ref sl) (.ref b)) Q E s := by
  have hl : s.heap.IsList l items := PySem.IsL.isList e
  have hb : s.heap.IsList b new := PySem.IsL.isList e2
  obtain ⟨os, hos, hcs, hds⟩ := id hs
  have hTs : s.TypeIs (.ref sl) "slice" := ⟨os, hos, hcs⟩
  have n1 : ¬ ((rawPart none == rawInt 0) = true) := Bool.false_ne_true
  have n2' : Builtin.List.listSameRef (.ref l) (.ref b) = false := by unfold Builtin.List.listSameRef; exact beq_eq_false_iff_ne.mpr ne
  have n3 : (max (a : Int) (c : Int)).toNat = c := by omega
  have n4 : ((fun xs : Array Value => xs.extract 0 a ++ new ++ xs.extract c xs.size) items).size ≤ sizeLine + 1 := by
    simp only [Array.size_append, Array.size_extract]; omega
  unfold setItem
  try with_reducible refine wpAny_holding ?_
  first | refine wpAny_bind (wpAny_pure ?_) | skip
  refine wpAny_bind (wpAny_sequenceKey hl.typeIs (by decide) (wpAny_bind (wpAny_callSpecial?_slot (name := Str.ofString "__setitem__") hl.typeIs slot_list_setitem (wpAny_call_entry slot_list_setitem hl.typeIs entry_list_setitem ?_ (args_list_setitem _ _ _)))))
  show wpAny _ _ (Builtin.List.listSubscript? (.ref sl) >>= _) _ _ s
  refine wpAny_bind ?_
  unfold Builtin.List.listSubscript?
  refine wpAny_bind (wpAny_specialOf hTs slice_no_index ?_)
  simp only [Option.isNone_none, if_true]
  refine wpAny_pure ?_
  show wpAny _ _ (typeOf (.ref sl) >>= _) _ _ s
  refine wpAny_bind (wpAny_typeOf hTs ?_)
  rw [if_neg (by decide)]
  rw [listSliceParts_eq]
  refine wpAny_bind (wpAny_bind (wpAny_field hos hds (x := .none) rfl (wpAny_bind (wpAny_listPart .none ?_)))); rw [if_neg n1]
  refine wpAny_bind (wpAny_field hos hds (x := vl) rfl (wpAny_bind (wpAny_listPart pl (wpAny_bind (wpAny_field hos hds (x := vu) rfl (wpAny_bind (wpAny_listPart pu (wpAny_pure ?_))))))))
  simp only [n2', Bool.false_eq_true, if_false]
  refine wpAny_bind (m := Builtin.List.listAllItems (.ref b) _) ?_
  unfold Builtin.List.listAllItems
  refine wpAny_bind (wpAny_typeOf hb.typeIs ?_)
  simp only [beq_self_eq_true, Bool.true_or, if_true]
  unfold Builtin.List.listItems
  refine wpAny_bind (wpAny_seqItems e2 rfl (wpAny_pure (wpAny_bind (wpAny_bind (wpAny_seqItems e rfl (wpAny_pure ?_))))))
  refine wpAny_bind (wpAny_of_eq ((sliceIndices_raw lo hi none items.size (by simp)).trans (congrArg pure hbd)) ?_)
  show wpAny _ _ (if ((1 : Int) == 1) = true then _ else _) _ _ s
  rw [if_pos (by decide)]
  refine wpAny_bind (wpAny_rule ?_)
  simp only [notLongL hsz, Bool.false_eq_true, if_false]
  first | refine wpAny_bind (wpAny_pure ?_) | skip
  show wpAny _ _ (updateSeq l (fun xs => xs.extract 0 ((a : Int)).toNat ++ new ++ xs.extract (max (a : Int) (c : Int)).toNat xs.size) >>= _) _ _ s
  rw [n3, Int.toNat_natCast]
  refine wpAny_bind (wpAny_updateSeq (hz := Nat.le_trans (Nat.le_add_right _ _) hsz) (_hz' := n4) e rfl (wpAny_bind (wpAny_letGo ?_)))
  first
    | exact wpAny_bind (wpAny_pure (wpAny_pure ⟨.none, rfl, wpAny_pure h⟩))
    | exact wpAny_pure ⟨.none, rfl, wpAny_pure h⟩
end
section
variable {X : Cx}
def gCut (to : TE) (tl th : TO) : TG := fun v σ H Q => to σ H fun x H1 => tl σ H1 fun lo H2 => th σ H2 fun hi H3 => ∃ (p b : Addr) (xs ys : List V) (a c : Nat), x = .ref p ∧ v = .ref b ∧ H3 p = some (.lst xs) ∧ H3 b = some (.lst ys) ∧ p ≠ b ∧
  sliceBounds lo hi none xs.length = ((a : Int), (c : Int), 1) ∧ a ≤ c ∧ c ≤ xs.length ∧ xs.length + ys.length ≤ sizeLine ∧ Q σ (upd H3 p (.lst (xs.take a ++ ys ++ xs.drop c)))
theorem pg_cut {o : Expr} {lo hi : Option Expr} {to : TE} {tl th : TO} {p2 pos : Pos} (ho : PE X o to) (hl : PO X lo tl) (hu : PO X hi th)
    (ha : ∀ v, assign (.Subscript o (.Slice lo hi none p2) pos) X.env v = (holding [v] (eval o X.env) >>= fun x => holding [v, x] (eval (.Slice lo hi none p2) X.env) >>= fun y =>
      standAt pos >>= fun _ => holding [v, x, y] (setItem x y v) >>= fun _ => release [y, v, x] []) := by intro _; rfl) : PG X (.Subscript o (.Slice lo hi none p2) pos) (gCut to tl th) := by
  refine ⟨fun pins s σ H v u Q I r h => ?_⟩
  rw [ha]
  refine wpAny_bind (wpAny_holding (thn (ho.run pins s σ H _ I h) fun ov s1 ⟨x, H1, I1, r1, q1⟩ => wpAny_bind (wpAny_holding ?_)))
  refine wpAny_Slice (thn (hl.run pins s1 σ H1 _ I1 q1) fun vl s2 ⟨l, H2, I2, pl, q2⟩ => thn (hu.run pins s2 σ H2 _ I2 q2) fun vu s3 ⟨t, H3, I3, pu, q3⟩ => ?_)
  rw [evalPart_none]
  refine wpAny_pure (wpAny_bind (wpAny_standAt (wpAny_bind (wpAny_holding ?_))))
  obtain ⟨p, b, xs, ys, a, c, rfl, rfl, hp, hb, ne, hbd, hac, hc, hz, q⟩ := q3
  have I4 : Inv X pins σ H3 { s3 with heap := s3.heap.push { cls := .type "slice", data := .fields #[vl, vu, .none] } } :=
    I3.kept (t' := s3.toks) fun b ob q => Heap.get?_push_of_some _ q
  obtain rfl : ov = Value.ref p := r1
  obtain rfl : u = Value.ref b := r
  obtain ⟨z1, its1, m1, r1, l1, g1⟩ := I4.lstM hp
  obtain ⟨z2, its2, m2, r2, l2, g2⟩ := I4.lstM hb
  refine setItem_cut (a := a) (c := c) g1 g2 ne (Heap.IsSliceOf.new ..) pl pu (by rw [List.size_toArray, ← l1]; exact hbd) hac (by rw [List.size_toArray, ← l1]; exact hc) (by rw [List.size_toArray, List.size_toArray, ← l1, ← l2]; exact hz) ?_
  refine wpAny_release ⟨σ, _, I4.lset (its' := its1.take a ++ its2 ++ its1.drop c) (t' := s3.toks) hp g1 (splice_eq its1 its2 a c) (Vals.append (Vals.append (r1.take _) r2) (r1.drop _)) ?_, q⟩
  rw [List.length_append, List.length_append, List.length_take, List.length_drop]
  omega
end
theorem bounds_from {k n : Nat} (h : k ≤ n) : sliceBounds (some (k : Int)) none none n = ((k : Int), (n : Int), 1) := by
  simp only [sliceBounds, Option.getD_none]
  have h1 : ¬ ((k : Int) < 0) := by omega
  simp only [h1, if_false, show (1 : Int) > 0 by decide, if_true]
  congr 1
  omega
theorem bounds_min {k n : Nat} : sliceBounds (some (k : Int)) none none n = (((min k n : Nat) : Int), (n : Int), 1) := by
  simp only [sliceBounds, Option.getD_none]
  have h1 : ¬ ((k : Int) < 0) := by omega
  simp only [h1, if_false, show (1 : Int) > 0 by decide, if_true]
  congr 1
  omega
end Lc

namespace Lc
open PySem PySem.Spec PyProof.Rows L2
/-- the cards among the first n in a column -/
def inCol (ps : List (Nat × Int)) (k n : Nat) : List Nat := (List.range n).filter fun j => decide ((ps.map (·.1))[j]? = some k)
theorem inCol_succ {ps : List (Nat × Int)} {k n : Nat} {p : Nat × Int} (h : ps[n]? = some p) : inCol ps k (n + 1) = if p.1 = k then inCol ps k n ++ [n] else inCol ps k n := by
  unfold inCol
  rw [List.range_succ, List.filter_append]
  have e : (ps.map (·.1))[n]? = some p.1 := by rw [List.getElem?_map, h]; rfl
  by_cases q : p.1 = k
  · rw [if_pos q]
    simp [e, q]
  · rw [if_neg q]
    simp [e, q]
theorem filter_two {α : Type} (p q : α → Bool) (d : ∀ x, p x = true → q x = false) : ∀ l : List α, (l.filter p ++ l.filter q).Perm (l.filter fun x => p x || q x)
  | [] => List.Perm.refl _
  | x :: l => by
    have ih := filter_two p q d l
    cases hp : p x with
    | true =>
      have hq := d x hp
      rw [List.filter_cons_of_pos hp, List.filter_cons_of_neg (by simp [hq]), List.filter_cons_of_pos (by simp [hp])]
      exact ih.cons x
    | false =>
      cases hq : q x with
      | true =>
        rw [List.filter_cons_of_neg (by simp [hp]), List.filter_cons_of_pos hq, List.filter_cons_of_pos (by simp [hq])]
        exact (List.perm_middle).trans (ih.cons x)
      | false =>
        rw [List.filter_cons_of_neg (by simp [hp]), List.filter_cons_of_neg (by simp [hq]), List.filter_cons_of_neg (by simp [hp, hq])]
        exact ih
/-- the columns one behind another -/
def cols (ps : List (Nat × Int)) (n : Nat) : Nat → List Nat
  | 0 => []
  | m + 1 => cols ps n m ++ inCol ps m n
def colB (ps : List (Nat × Int)) (m j : Nat) : Bool := match (ps.map (·.1))[j]? with
  | some c => decide (c < m)
  | none => false
theorem cols_perm0 (ps : List (Nat × Int)) (n : Nat) : ∀ m, (cols ps n m).Perm ((List.range n).filter (colB ps m))
  | 0 => by
    have : ((List.range n).filter (colB ps 0)) = [] := by
      rw [List.filter_eq_nil_iff]
      intro j _
      unfold colB
      cases (ps.map (·.1))[j]? <;> simp
    rw [this]
    exact List.Perm.refl _
  | m + 1 => by
    have ih := cols_perm0 ps n m
    refine (List.Perm.append_right _ ih).trans ?_
    refine (filter_two _ _ (fun j hj => ?_) (List.range n)).trans ?_
    · unfold colB at hj
      cases h : (ps.map (·.1))[j]? with
      | none => rw [h] at hj; cases hj
      | some c =>
        rw [h] at hj
        have : c < m := of_decide_eq_true hj
        simp
        omega
    · refine List.Perm.of_eq (List.filter_congr fun j _ => ?_)
      unfold colB
      cases h : (ps.map (·.1))[j]? with
      | none => simp
      | some c =>
        simp only [Option.some.injEq]
        by_cases h1 : c < m
        · simp [h1, Nat.lt_succ_of_lt h1]
        · by_cases h2 : c = m
          · simp [h2]
          · have : ¬ c < m + 1 := by omega
            simp [h1, h2, this]
theorem cols_len (ps : List (Nat × Int)) (n : Nat) : ∀ m, (cols ps n m).length ≤ n := fun m => by
  rw [(cols_perm0 ps n m).length_eq]
  have := List.length_filter_le (colB ps m) (List.range n)
  rw [List.length_range] at this
  exact this
theorem cols_all {ps : List (Nat × Int)} {m : Nat} (h : ∀ p ∈ ps, p.1 < m) : (cols ps ps.length m).Perm (List.range ps.length) := by
  refine (cols_perm0 ps ps.length m).trans (List.Perm.of_eq ?_)
  rw [List.filter_eq_self]
  intro j hj
  have hj' := List.mem_range.mp hj
  unfold colB
  rw [List.getElem?_map, List.getElem?_eq_getElem hj']
  exact decide_eq_true (h _ (List.getElem_mem hj'))
theorem fold_lt (r : Bool) (n : Nat) : ∀ (hs : List Int) (s : List (Nat × Int) × List Int), s.2 ≠ [] → s.2.length = n → (∀ p ∈ s.1, p.1 < n) → ∀ p ∈ (hs.foldl (put r) s).1, p.1 < n
  | [], s, _, _, h => h
  | x :: hs, s, hne, hl, h => fold_lt r n hs (put r s x) (put_ne hne) (by show (s.2.set _ _).length = n; rw [List.length_set]; exact hl) fun p hp => by
    have hp' : p ∈ s.1 ++ [(low r s.2, mn s.2)] := hp
    rcases List.mem_append.mp hp' with hp' | hp'
    · exact h p hp'
    · rw [List.mem_singleton.mp hp', ← hl]
      exact low_lt hne
theorem play_lt {r : Bool} {cs hs : List Int} (h : cs ≠ []) : ∀ p ∈ (play r cs hs).1, p.1 < cs.length := fold_lt r cs.length hs ([], cs) h rfl fun p h => by cases h
def nat2 (l : List Nat) : List Int := l.map fun j => ((j : Nat) : Int)
theorem nat2_append (a b : List Nat) : nat2 (a ++ b) = nat2 a ++ nat2 b := List.map_append ..
theorem nat2_small {l : List Nat} (h : ∀ j ∈ l, j ≤ 1000) : ∀ n ∈ nat2 l, n.natAbs < 10 ^ 90 := fun n hn => by
  obtain ⟨j, hj, rfl⟩ := List.mem_map.mp hn
  exact nat_pow_big (by omega) (by have := h j hj; omega)
theorem range_sorted (n : Nat) : Sorted (nat2 (List.range n)) := by
  unfold nat2 Sorted
  rw [List.pairwise_map]
  exact (List.pairwise_lt_range (n := n)).imp fun h => by omega
end Lc

namespace Lc
open PySem PySem.Spec PyProof.Rows L2
/-- a comprehension over zip of two lists of one length -/
theorem lc_zip {K : PySem.W.Frag} {a b D : Addr} {xs ys : List V} {g : TG} {tt : TT} {te : TE} {vs : List Nat} {σ : L2.St} {H0 : Hp} {Qd : Hp → Prop}
    (hle : xs.length = ys.length) (Pv : Nat → Hp → Prop) (h0 : Pv 0 (upd H0 D (.lst []))) (hl : ∀ i H, i ≤ xs.length → Pv i H → SqL K H a xs ∧ SqL K H b ys)
    (hs : ∀ i x y H T, xs[i]? = some x → ys[i]? = some y → Pv i H → H T = none → g (.ref T) (wipe σ vs) (upd H T (.tup [x, y])) fun σ2 H2 =>
      wipe σ2 vs = wipe σ vs ∧ tt σ2 H2 fun b H3 => if b = true then te σ2 H3 fun y H4 => ∃ acc, H4 D = some (.lst acc) ∧ acc.length < sizeLine ∧ Pv (i + 1) (upd H4 D (.lst (acc ++ [y]))) else Pv (i + 1) H3)
    (hd : ∀ H, Pv xs.length H → Qd H) :
    ∃ W : Nat → Nat → Hp → Prop, (∃ m, W 0 m (upd H0 D (.lst []))) ∧ ∀ i m H, W i m H →
      (((Itz K a b).stop i H ∧ Qd H) ∨ ((Itz K a b).go i H ∧ ∃ Nx : Hp → Prop, (∀ H', Nx H' → ∃ m', m' < m ∧ W (i + 1) m' H') ∧
        ∀ x H', (Itz K a b).yld i H x H' → g x (wipe σ vs) H' fun σ2 H2 => wipe σ2 vs = wipe σ vs ∧ tt σ2 H2 fun b H3 =>
          if b = true then te σ2 H3 fun y H4 => ∃ acc, H4 D = some (.lst acc) ∧ acc.length < sizeLine ∧ Nx (upd H4 D (.lst (acc ++ [y]))) else Nx H3)) := by
  refine ⟨fun i m H => m + i = xs.length ∧ Pv i H, ⟨xs.length, rfl, h0⟩, fun i m H hW => ?_⟩
  obtain ⟨em, p⟩ := hW
  have q := hl i H (by omega) p
  by_cases h : i < xs.length
  · refine .inr ⟨⟨xs, ys, xs[i], ys[i]'(by omega), q.1, q.2, List.getElem?_eq_getElem h, List.getElem?_eq_getElem (by omega)⟩, Pv (i + 1), fun H' p' => ⟨m - 1, by omega, by omega, p'⟩, fun v H' y => ?_⟩
    obtain ⟨T, x, z, e1, nT, e2, hx, hy⟩ := y
    subst e1
    subst e2
    exact hs i x z H T (hx xs q.1) (hy ys q.2) p nT
  · have e : i = xs.length := by omega
    subst e
    exact .inl ⟨⟨xs, ys, q.1, q.2, .inl (Nat.le_refl _)⟩, hd H p⟩
/-! changed lists -/
def insAt (l : List Int) (i : Nat) (x : Int) : List Int := l.take i ++ [x] ++ l.drop i
def delAt (l : List Int) (i : Nat) : List Int := l.take i ++ l.drop (i + 1)
def grow (a b : List Int) : List Int := (a.zip b).map fun p => p.2 - p.1
theorem insAt_len {l : List Int} {i : Nat} {x : Int} (h : i ≤ l.length) : (insAt l i x).length = l.length + 1 := by
  unfold insAt
  simp only [List.length_append, List.length_take, List.length_drop, List.length_cons, List.length_nil]
  omega
theorem delAt_len {l : List Int} {i : Nat} (h : i < l.length) : (delAt l i).length = l.length - 1 := by
  unfold delAt
  simp only [List.length_append, List.length_take, List.length_drop]
  omega
theorem mem_insAt {l : List Int} {i : Nat} {x y : Int} (h : y ∈ insAt l i x) : y = x ∨ y ∈ l := by
  unfold insAt at h
  rcases List.mem_append.mp h with h | h
  · rcases List.mem_append.mp h with h | h
    · exact .inr (List.mem_of_mem_take h)
    · exact .inl (List.mem_singleton.mp h)
  · exact .inr (List.mem_of_mem_drop h)
theorem mem_delAt {l : List Int} {i : Nat} {y : Int} (h : y ∈ delAt l i) : y ∈ l := by
  unfold delAt at h
  rcases List.mem_append.mp h with h | h
  · exact List.mem_of_mem_take h
  · exact List.mem_of_mem_drop h
theorem grow_len {a b : List Int} (h : a.length = b.length) : (grow a b).length = a.length := by
  unfold grow
  rw [List.length_map, List.length_zip]
  omega
theorem grow_take {a b : List Int} {i : Nat} {x y : Int} (h1 : a[i]? = some x) (h2 : b[i]? = some y) : (grow a b)[i]? = some (y - x) := by
  unfold grow
  rw [List.getElem?_map, (List.getElem?_zip_eq_some (z := (x, y))).mpr ⟨h1, h2⟩]
  rfl
def effIns (cs hs : List Int) (i : Nat) (h : Int) : List Int := grow (tops cs hs) (delAt (tops cs (insAt hs i h)) i)
def effRem (cs hs : List Int) (i : Nat) : List Int := grow (delAt (tops cs hs) i) (tops cs (delAt hs i))
def effMov (cs hs : List Int) (i j : Nat) (x : Int) : List Int := grow (delAt (tops cs hs) i) (delAt (tops cs (insAt (delAt hs i) j x)) j)
def effStr (cs hs : List Int) (i : Nat) (h : Int) : List Int := grow (tops cs hs) (tops cs (insAt (delAt hs i) i h))
def effExc (cs hs : List Int) (i : Nat) (x : Int) : List Int := grow (tops cs hs) (tops cs (insAt (delAt hs i) (i + 1) x))
end Lc

namespace Lc
open PySem PySem.Spec PyProof.Rows L2
/-! the greatest item; max with default= -/
def mx (l : List Int) : Int := - mn (l.map fun x => - x)
theorem mx_spec {l : List Int} (h : l ≠ []) : mx l ∈ l ∧ ∀ y ∈ l, y ≤ mx l := by
  have s := mn_spec (cs := l.map fun x => - x) (fun e => h (by simpa using e))
  obtain ⟨x, hx, e⟩ := List.mem_map.mp s.1
  refine ⟨?_, fun y hy => ?_⟩
  · have : mx l = x := by unfold mx; omega
    rw [this]; exact hx
  · have := s.2 (-y) (List.mem_map.mpr ⟨y, hy, rfl⟩)
    unfold mx; omega
theorem mx_eq {l : List Int} {m : Int} (h : m ∈ l) (h2 : ∀ y ∈ l, y ≤ m) : mx l = m := by
  have hn : l ≠ [] := fun e => by rw [e] at h; cases h
  have s := mx_spec hn
  exact Int.le_antisymm (h2 _ s.1) (s.2 m h)
theorem mx_in {cs : List Int} {lo hi : Int} (hne : cs ≠ []) (h : ∀ n ∈ cs, lo ≤ n ∧ n ≤ hi) : lo ≤ mx cs ∧ mx cs ≤ hi := h _ (mx_spec hne).1
theorem mn_in {cs : List Int} {lo hi : Int} (hne : cs ≠ []) (h : ∀ n ∈ cs, lo ≤ n ∧ n ≤ hi) : lo ≤ mn cs ∧ mn cs ≤ hi := h _ (mn_spec hne).1
def mxD (l : List Int) (d : Int) : Int := if l = [] then d else mx l
def rMaxKD (K : PySem.W.Frag) : List V → List V → Hp → VK → Prop := fun vs zs H Q => ∃ (a : Addr) (ns : List Int) (d : Int), vs = [V.ref a] ∧ zs = [V.int d] ∧ SqL K H a (ns.map V.int) ∧ Q (.int (mxD ns d)) H
theorem cr_maxKD {X : Cx} (hc : X.calm = true) : CallRK X (.builtin "max") [Str.ofString "default"] (rMaxKD X.K) := by
  intro pins s σ H vs zs us ws Q I r rz h
  obtain ⟨a, ns, d, rfl, rfl, hs, q⟩ := h
  obtain ⟨its, rv, pl, _⟩ := I.list hs
  rw [Vals.ref1 r]
  obtain ⟨w, rfl, hw⟩ := vals1 rz
  obtain ⟨t, rfl⟩ : ∃ t, w = Value.int d t := hw
  have hi : IntsAre its ns := rv.ints
  have hl := pl.isList
  obtain ⟨xs, e⟩ := hi.allInts.items
  have hn : numsOf (intItems xs).toList = ns := by rw [← e]; exact hi.numsOf
  rw [nums_intItems] at hn
  rw [e] at hl
  have hsz : (intItems xs).size = ns.length := by rw [← e, List.size_toArray, ← rv.length, List.length_map]
  have hsx : xs.size = ns.length := by rw [← hn, List.length_map, Array.length_toList]
  refine PySem.call_max_walkD (PySem.W.iter_listW (I.ok.hd hc) hl fun s₂ e2 W st hfp hw hk => ?_)
  refine ⟨_, _, _, _, _, _, _, s.heap, fun i j => decide (numAt xs i > numAt xs j), rfl, W, st, hfp, hw, hk, fun h0 s' m => ?_, fun h0 => ⟨fun i j vi vj s1 Q1 E1 _ e1 e3 hq => CmpOf.ints_gt (numAt xs) (fun _ _ => intItems_at) i j vi vj s1 Q1 E1 e1 e3 hq, fun v s' hP m => ?_⟩⟩
  · obtain ⟨h', tk, es, hkk⟩ := PySem.W.moved_old e2 rfl m
    have en : ns = [] := List.length_eq_zero_iff.mp (by omega)
    subst es
    refine ⟨.int d, H, I.kept hkk, ⟨t, rfl⟩, ?_⟩
    unfold mxD at q
    rwa [if_pos en] at q
  · obtain ⟨h', tk, es, hkk⟩ := PySem.W.moved_old e2 rfl m
    subst es
    have hP' : (intItems xs)[argBest (fun i j => decide (numAt xs i > numAt xs j)) (xs.size - 1)]? = some v := by
      rw [show (intItems xs).size = xs.size by rw [hsz, hsx]] at hP
      exact hP
    obtain ⟨t2, rfl⟩ := intItems_at hP'
    obtain ⟨h1, h2⟩ := argBest_gt (numAt xs) (xs.size - 1)
    have hpos : 0 < ns.length := by omega
    have em : mx ns = numAt xs (argBest (fun i j => decide (numAt xs i > numAt xs j)) (xs.size - 1)) := by
      refine mx_eq ?_ fun y hy => ?_
      · rw [numAt_eq, ← hn]; exact PySem.getD_mem (by rw [List.length_map, Array.length_toList]; omega)
      · rw [← hn] at hy
        obtain ⟨j, hj, rfl⟩ := mem_getD hy
        rw [List.length_map, Array.length_toList] at hj
        rw [← numAt_eq]; exact h2 j (by omega)
    refine ⟨.int _, H, I.kept hkk, ⟨t2, rfl⟩, ?_⟩
    unfold mxD at q
    rw [if_neg (fun z => by rw [z] at hpos; exact absurd hpos (by decide)), em] at q
    exact q
/-! the columns stand out by the greatest height at most -/
theorem fold_spread (r : Bool) (D : Int) : ∀ (hs : List Int) (s : List (Nat × Int) × List Int), s.2 ≠ [] → (∀ h ∈ hs, 0 ≤ h ∧ h ≤ D) → (∀ c ∈ s.2, c ≤ mn s.2 + D) → ∀ c ∈ (hs.foldl (put r) s).2, c ≤ mn (hs.foldl (put r) s).2 + D
  | [], s, _, _, hc => hc
  | h :: hs, s, hne, hp, hc => by
    obtain ⟨l, p1, p2⟩ := put_cols r s h hne
    have h0 := hp h List.mem_cons_self
    have m0 := mn_spec hne
    have m1 := mn_spec (put_ne (r := r) (h := h) hne)
    have up : mn s.2 ≤ mn (put r s h).2 := by
      rcases List.mem_cons.mp (p2.subset m1.1) with e | e
      · rw [e]; omega
      · exact m0.2 _ (p1.subset (List.mem_cons_of_mem _ e))
    refine fold_spread r D hs (put r s h) (put_ne hne) (fun x hx => hp x (List.mem_cons_of_mem _ hx)) fun c hcm => ?_
    rcases List.mem_cons.mp (p2.subset hcm) with e | e
    · rw [e]; omega
    · have := hc c (p1.subset (List.mem_cons_of_mem _ e)); omega
theorem perm_sum {a b : List Int} (p : a.Perm b) : a.sum = b.sum := by
  induction p with
  | nil => rfl
  | cons x _ ih => rw [List.sum_cons, List.sum_cons, ih]
  | swap x y l => rw [List.sum_cons, List.sum_cons, List.sum_cons, List.sum_cons]; omega
  | trans _ _ h1 h2 => exact h1.trans h2
theorem sum_le_mul {B : Int} : ∀ {l : List Int}, (∀ c ∈ l, c ≤ B) → l.sum ≤ l.length * B
  | [], _ => by simp
  | x :: l, h => by
    have h1 := h x List.mem_cons_self
    have h2 := sum_le_mul (B := B) (l := l) fun c hc => h c (List.mem_cons_of_mem _ hc)
    have e : (((x :: l).length : Nat) : Int) * B = (l.length : Int) * B + B := by
      rw [List.length_cons, Int.natCast_add, Int.add_mul]; simp
    rw [List.sum_cons, e]; omega
theorem mul_le_sum {B : Int} : ∀ {l : List Int}, (∀ c ∈ l, B ≤ c) → l.length * B ≤ l.sum
  | [], _ => by simp
  | x :: l, h => by
    have h1 := h x List.mem_cons_self
    have h2 := mul_le_sum (B := B) (l := l) fun c hc => h c (List.mem_cons_of_mem _ hc)
    have e : (((x :: l).length : Nat) : Int) * B = (l.length : Int) * B + B := by
      rw [List.length_cons, Int.natCast_add, Int.add_mul]; simp
    rw [List.sum_cons, e]; omega
/-- what lowest_bounds finds -/
def lbD (cs hs : List Int) : Int := if mx cs - mn cs > mxD hs 0 then mx cs - mn cs else mxD hs 0
def lbLo (cs hs : List Int) : Int := -(((((cs.length : Nat) : Int) - 1) * lbD cs hs - (ends cs hs).sum) / ((cs.length : Nat) : Int))
theorem lbD_le (cs hs : List Int) : mx cs - mn cs ≤ lbD cs hs ∧ mxD hs 0 ≤ lbD cs hs := by
  unfold lbD
  split <;> omega
theorem lbD_mem {cs hs : List Int} : (lbD cs hs = mx cs - mn cs) ∨ lbD cs hs = mxD hs 0 := by
  unfold lbD
  split <;> simp
/-- the bounds of a division up -/
theorem ceil_facts {n X q : Int} (hn : 0 < n) (e : q = X / n) : n * (-q - 1) < -X ∧ -X ≤ n * -q := by
  have h1 := Int.mul_ediv_self_le (x := X) (k := n) (by omega)
  have h2 := Int.lt_mul_ediv_self_add (x := X) (k := n) hn
  rw [← e] at h1 h2
  rw [Int.mul_sub, Int.mul_neg, Int.mul_one]
  omega
theorem floor_facts {n X q : Int} (hn : 0 < n) (e : q = X / n) : n * q ≤ X ∧ X < n * (q + 1) := by
  have h1 := Int.mul_ediv_self_le (x := X) (k := n) (by omega)
  have h2 := Int.lt_mul_ediv_self_add (x := X) (k := n) hn
  rw [← e] at h1 h2
  rw [Int.mul_add, Int.mul_one]
  omega
theorem low_within {es : List Int} {D : Int} (hne : es ≠ []) (h : ∀ c ∈ es, c ≤ mn es + D) : es.sum - (((es.length : Nat) : Int) - 1) * D ≤ ((es.length : Nat) : Int) * mn es ∧ ((es.length : Nat) : Int) * mn es ≤ es.sum := by
  refine ⟨?_, mul_le_sum (mn_spec hne).2⟩
  have m := (mn_spec hne).1
  have g := ix_get m
  have p := erase_perm es (ix (mn es) es) (mn es) g
  have hs := perm_sum p
  have hl := p.length_eq
  have hb := sum_le_mul (B := mn es + D) (l := es.eraseIdx (ix (mn es) es)) fun c hc => h c (p.subset (List.mem_cons_of_mem _ hc))
  generalize es.eraseIdx (ix (mn es) es) = l at p hs hl hb
  rw [List.sum_cons] at hs
  rw [List.length_cons] at hl
  have e1 : ((es.length : Nat) : Int) = (l.length : Int) + 1 := by omega
  rw [e1, show ((l.length : Int) + 1 - 1) = (l.length : Int) by omega, Int.add_mul, Int.one_mul]
  rw [Int.mul_add] at hb
  omega
/-! a start that is nowhere higher: no top is greater -/
def cnt (t : Int) (l : List Int) : Nat := l.countP fun c => decide (c ≤ t)
def Dom (A B : List Int) : Prop := ∀ t, cnt t A ≤ cnt t B
theorem cnt_perm {t : Int} {a b : List Int} (p : a.Perm b) : cnt t a = cnt t b := p.countP_eq _
theorem cnt_cons (t x : Int) (l : List Int) : cnt t (x :: l) = cnt t l + if x ≤ t then 1 else 0 := by
  unfold cnt
  rw [List.countP_cons]
  by_cases h : x ≤ t
  · rw [if_pos (by simpa using h), if_pos h]
  · rw [if_neg (by simpa using h), if_neg h]
theorem cnt_zero {t : Int} {l : List Int} (h : ∀ c ∈ l, t < c) : cnt t l = 0 := by
  unfold cnt
  rw [List.countP_eq_zero]
  intro c hc
  have := h c hc
  simp; omega
theorem Dom.mn {A B : List Int} (h : Dom A B) (hA : A ≠ []) : B ≠ [] ∧ mn B ≤ mn A := by
  have s := mn_spec hA
  have h1 : 0 < cnt (Lc.mn A) A := List.countP_pos_iff.mpr ⟨_, s.1, by simp⟩
  have h2 : 0 < cnt (Lc.mn A) B := Nat.lt_of_lt_of_le h1 (h _)
  obtain ⟨c, hc, hle⟩ := List.countP_pos_iff.mp h2
  have hB : B ≠ [] := fun e => by rw [e] at hc; cases hc
  have := (mn_spec hB).2 c hc
  exact ⟨hB, by have : c ≤ Lc.mn A := by simpa using hle
                omega⟩
theorem Dom.put {r r' : Bool} {s s' : List (Nat × Int) × List Int} {x : Int} (h : Dom s.2 s'.2) (h0 : 0 ≤ x) (hne : s.2 ≠ []) : Dom (put r s x).2 (Lc.put r' s' x).2 := by
  obtain ⟨hne', hm⟩ := h.mn hne
  obtain ⟨l, p1, p2⟩ := put_cols r s x hne
  obtain ⟨l', p1', p2'⟩ := put_cols r' s' x hne'
  intro t
  have ht := h t
  rw [← cnt_perm p1, ← cnt_perm p1', cnt_cons, cnt_cons] at ht
  rw [cnt_perm p2, cnt_perm p2', cnt_cons, cnt_cons]
  by_cases hmt : Lc.mn s.2 ≤ t
  · rw [if_pos hmt, if_pos (by omega)] at ht
    by_cases h1 : Lc.mn s.2 + x ≤ t
    · rw [if_pos h1, if_pos (by omega)]; omega
    · rw [if_neg h1]; omega
  · have z : cnt t l = 0 := cnt_zero fun c hc => by
      have := (mn_spec hne).2 c (p1.subset (List.mem_cons_of_mem _ hc))
      omega
    rw [z, if_neg (by omega)]
    omega
def Le2 (a b : List Int) : Prop := a.length = b.length ∧ ∀ p ∈ a.zip b, p.2 ≤ p.1
theorem Le2.snoc {a b : List Int} {x y : Int} (h : Le2 a b) (hxy : y ≤ x) : Le2 (a ++ [x]) (b ++ [y]) := by
  refine ⟨by rw [List.length_append, List.length_append, h.1]; rfl, fun p hp => ?_⟩
  rw [List.zip_append h.1] at hp
  rcases List.mem_append.mp hp with hp | hp
  · exact h.2 p hp
  · have : p = (x, y) := List.mem_singleton.mp hp
    rw [this]; exact hxy
theorem fold_dom (r r' : Bool) : ∀ (hs : List Int) (s s' : List (Nat × Int) × List Int), s.2 ≠ [] → (∀ h ∈ hs, 0 ≤ h) → Dom s.2 s'.2 → Le2 (s.1.map (·.2)) (s'.1.map (·.2)) →
    Le2 ((hs.foldl (put r) s).1.map (·.2)) ((hs.foldl (put r') s').1.map (·.2)) ∧ Dom (hs.foldl (put r) s).2 (hs.foldl (put r') s').2
  | [], s, s', _, _, d, e => ⟨e, d⟩
  | h :: hs, s, s', hne, hp, d, e => by
    refine fold_dom r r' hs (put r s h) (put r' s' h) (put_ne hne) (fun x hx => hp x (List.mem_cons_of_mem _ hx)) (d.put (hp h List.mem_cons_self) hne) ?_
    show Le2 ((s.1 ++ [(low r s.2, mn s.2)]).map (·.2)) ((s'.1 ++ [(low r' s'.2, mn s'.2)]).map (·.2))
    rw [List.map_append, List.map_append]
    exact e.snoc (d.mn hne).2
theorem tops_dom {cs cs' hs : List Int} (hne : cs ≠ []) (hp : ∀ h ∈ hs, 0 ≤ h) (d : Dom cs cs') : ∀ g ∈ grow (tops cs hs) (tops cs' hs), g ≤ 0 := by
  have q := (fold_dom false false hs ([], cs) ([], cs') hne hp d ⟨rfl, fun p hp => by cases hp⟩).1
  intro g hg
  unfold grow at hg
  obtain ⟨p, hpm, rfl⟩ := List.mem_map.mp hg
  have := q.2 p hpm
  omega
theorem dom_more (cs : List Int) (x : Int) : Dom cs (cs ++ [x]) := fun t => by
  unfold cnt
  rw [List.countP_append]
  omega
end Lc

namespace Lc
open PySem PySem.Spec PyProof.Rows L2
/-! walks: for over enumerate, a comprehension over zip of tuples -/
theorem for_enum {K : PySem.W.Frag} {a : Addr} {xs : List V} {g : TG} {tb : TS} {D : Ends} {σ : L2.St} {H : Hp} (Pv : Nat → L2.St → Hp → Prop) (h0 : Pv 0 σ H) (hl : ∀ i σ H, i ≤ xs.length → Pv i σ H → SqL K H a xs)
    (hs : ∀ i x σ H T, xs[i]? = some x → Pv i σ H → H T = none → g (.ref T) σ (upd H T (.tup [.int (i : Nat), x])) fun σ2 H2 => tb { D with nx := Pv (i + 1), ct := Pv (i + 1), bk := D.nx } σ2 H2) (hd : ∀ σ H, Pv xs.length σ H → D.nx σ H) :
    ∃ W : Nat → Nat → L2.St → Hp → Prop, (∃ m, W 0 m σ H) ∧ ∀ i m σ H, W i m σ H →
      ((Ite K a).stop i H ∧ D.nx σ H) ∨ ((Ite K a).go i H ∧ ∃ N : L2.St → Hp → Prop, (∀ σ' H', N σ' H' → ∃ m', m' < m ∧ W (i + 1) m' σ' H') ∧ ∀ x H', (Ite K a).yld i H x H' → g x σ H' fun σ2 H2 => tb { D with nx := N, ct := N, bk := D.nx } σ2 H2) :=
  for_it walk_enum Pv h0 hl (fun i x σ H H' hi p y => by
    obtain ⟨T, u, v, rfl, nT, rfl, e1, e2⟩ := y
    cases e1
    exact hs i v σ H T e2 p nT) hd
theorem walk_zipT {K : PySem.W.Frag} {a b : Addr} {xs ys : List V} {n : Nat} (hn : n = min xs.length ys.length) : Walk (RZ.ItzT K a b) n (fun H => SqT K H a xs ∧ SqT K H b ys) (YPair (fun i => xs[i]?) (fun i => ys[i]?)) := by
  subst hn
  refine ⟨fun i _ hi q => ?_, fun _ q => ⟨xs, ys, q.1, q.2, by omega⟩, fun i H v H' _ q y => ?_⟩
  · have h1 : i < xs.length := by omega
    have h2 : i < ys.length := by omega
    exact ⟨xs, ys, xs[i], ys[i], q.1, q.2, by simp [h1], by simp [h2]⟩
  · obtain ⟨T, x, z, h1, h2, h3, h4, h5⟩ := y
    exact ⟨T, x, z, h1, h2, h3, h4 xs q.1, h5 ys q.2⟩
theorem lc_zipT {K : PySem.W.Frag} {a b D : Addr} {xs ys : List V} {g : TG} {tt : TT} {te : TE} {vs : List Nat} {σ : L2.St} {H0 : Hp} {Qd : Hp → Prop}
    (hle : xs.length = ys.length) (Pv : Nat → Hp → Prop) (h0 : Pv 0 (upd H0 D (.lst []))) (hl : ∀ i H, i ≤ xs.length → Pv i H → SqT K H a xs ∧ SqT K H b ys)
    (hs : ∀ i x y H T, xs[i]? = some x → ys[i]? = some y → Pv i H → H T = none → g (.ref T) (wipe σ vs) (upd H T (.tup [x, y])) fun σ2 H2 =>
      wipe σ2 vs = wipe σ vs ∧ tt σ2 H2 fun b H3 => if b = true then te σ2 H3 fun y H4 => ∃ acc, H4 D = some (.lst acc) ∧ acc.length < sizeLine ∧ Pv (i + 1) (upd H4 D (.lst (acc ++ [y]))) else Pv (i + 1) H3)
    (hd : ∀ H, Pv xs.length H → Qd H) :
    ∃ W : Nat → Nat → Hp → Prop, (∃ m, W 0 m (upd H0 D (.lst []))) ∧ ∀ i m H, W i m H →
      (((RZ.ItzT K a b).stop i H ∧ Qd H) ∨ ((RZ.ItzT K a b).go i H ∧ ∃ Nx : Hp → Prop, (∀ H', Nx H' → ∃ m', m' < m ∧ W (i + 1) m' H') ∧
        ∀ x H', (RZ.ItzT K a b).yld i H x H' → g x (wipe σ vs) H' fun σ2 H2 => wipe σ2 vs = wipe σ vs ∧ tt σ2 H2 fun b H3 =>
          if b = true then te σ2 H3 fun y H4 => ∃ acc, H4 D = some (.lst acc) ∧ acc.length < sizeLine ∧ Nx (upd H4 D (.lst (acc ++ [y]))) else Nx H3)) :=
  lc_it (walk_zipT (n := xs.length) (by omega)) Pv h0 hl (fun i x H H' hi p y => by
    obtain ⟨T, u, v, rfl, nT, rfl, e1, e2⟩ := y
    exact hs i u v H T e1 e2 p nT) hd
/-! sorted lists, their differences place by place -/
def srt (l : List Int) : List Int := l.mergeSort fun a b => decide (a ≤ b)
theorem srt_perm (l : List Int) : (srt l).Perm l := List.mergeSort_perm _ _
theorem srt_sorted (l : List Int) : Sorted (srt l) := by
  have := List.pairwise_mergeSort (le := fun a b : Int => decide (a ≤ b)) (fun a b c h1 h2 => by simp at *; omega) (fun a b => by simp; omega) l
  exact this.imp fun h => by simpa using h
theorem srt_len (l : List Int) : (srt l).length = l.length := (srt_perm l).length_eq
theorem srt_eq {l m : List Int} (p : m.Perm l) (s : Sorted m) : m = srt l := sorted_uniq s (srt_sorted l) (p.trans (srt_perm l).symm)
theorem srt_of_perm {a b : List Int} (p : a.Perm b) : srt a = srt b := srt_eq ((srt_perm a).trans p) (srt_sorted a)
theorem srt_add (l : List Int) (m : Int) : (srt l).map (· + m) = srt (l.map (· + m)) := srt_eq ((srt_perm l).map _) (List.Pairwise.map _ (fun a b h => by show a + m ≤ b + m; omega) (srt_sorted l))
theorem grow_neg : ∀ a b : List Int, grow b a = (grow a b).map fun x => -x
  | [], b => by cases b <;> rfl
  | x :: a, [] => rfl
  | x :: a, y :: b => by
    have ih := grow_neg a b
    unfold grow at ih ⊢
    simp only [List.zip_cons_cons, List.map_cons, ih]
    rw [show x - y = -(y - x) by omega]
theorem grow_add (m : Int) : ∀ a b : List Int, grow a (b.map (· + m)) = (grow a b).map (· + m)
  | [], b => by cases b <;> rfl
  | x :: a, [] => rfl
  | x :: a, y :: b => by
    have ih := grow_add m a b
    unfold grow at ih ⊢
    simp only [List.zip_cons_cons, List.map_cons, ih]
    rw [show y + m - x = y - x + m by omega]
theorem mn_add {l : List Int} (h : l ≠ []) (m : Int) : mn (l.map (· + m)) = mn l + m := by
  have s := mn_spec h
  exact mn_eq (List.mem_map.mpr ⟨_, s.1, rfl⟩) fun y hy => by
    obtain ⟨z, hz, rfl⟩ := List.mem_map.mp hy
    have := s.2 z hz
    show mn l + m ≤ z + m
    omega
theorem mx_add {l : List Int} (h : l ≠ []) (m : Int) : mx (l.map (· + m)) = mx l + m := by
  have s := mx_spec h
  exact mx_eq (List.mem_map.mpr ⟨_, s.1, rfl⟩) fun y hy => by
    obtain ⟨z, hz, rfl⟩ := List.mem_map.mp hy
    have := s.2 z hz
    show z + m ≤ mx l + m
    omega
theorem mn_neg (l : List Int) : mn (l.map fun x => -x) = - mx l := by unfold mx; omega
theorem mx_neg (l : List Int) : mx (l.map fun x => -x) = - mn l := by
  unfold mx
  rw [List.map_map]
  have : ((fun x : Int => -x) ∘ fun x : Int => -x) = id := by funext x; show - -x = x; omega
  rw [this, List.map_id]
def gaps (a b : List Int) : List Int := grow (srt a) (srt b)
def gLo (a b : List Int) : Int := mn (gaps a b)
def gHi (a b : List Int) : Int := mx (gaps a b)
theorem gaps_len {a b : List Int} (h : a.length = b.length) : (gaps a b).length = a.length := by
  unfold gaps
  rw [grow_len (by rw [srt_len, srt_len, h]), srt_len]
theorem gaps_perm {a b a' b' : List Int} (p : a'.Perm a) (q : b'.Perm b) : gaps a' b' = gaps a b := by
  unfold gaps
  rw [srt_of_perm p, srt_of_perm q]
theorem gaps_neg (a b : List Int) : gaps b a = (gaps a b).map fun x => -x := grow_neg _ _
theorem gaps_add (a b : List Int) (m : Int) : gaps a (b.map (· + m)) = (gaps a b).map (· + m) := by
  unfold gaps
  rw [← srt_add, grow_add]
theorem gaps_ne {a b : List Int} (h : a.length = b.length) (ha : a ≠ []) : gaps a b ≠ [] := fun e => ha (List.length_eq_zero_iff.mp (by rw [← gaps_len h, e]; rfl))
theorem gaps_in {a b : List Int} {M : Int} (ha : ∀ x ∈ a, 0 ≤ x ∧ x ≤ M) (hb : ∀ x ∈ b, 0 ≤ x ∧ x ≤ M) : ∀ g ∈ gaps a b, -M ≤ g ∧ g ≤ M := fun g hg => by
  unfold gaps grow at hg
  obtain ⟨p, hp, rfl⟩ := List.mem_map.mp hg
  have z := List.of_mem_zip (show (p.1, p.2) ∈ (srt a).zip (srt b) from hp)
  have h1 := ha _ ((srt_perm a).subset z.1)
  have h2 := hb _ ((srt_perm b).subset z.2)
  omega
end Lc

namespace Lc
/-! ### observed tops: the mathematics -/
/-- can the top at i come behind the tops before it -/
def okAt (n : Nat) (ts : List Int) (i : Nat) : Bool :=
  if i < n then decide (ts.getD i 0 = 0) else decide (ts.getD (i - 1) 0 ≤ ts.getD i 0) && decide (ts.getD (i - n) 0 < ts.getD i 0)
/-- the first fault -/
def ff (n : Nat) (ts : List Int) : Option Nat := (List.range ts.length).find? fun i => !okAt n ts i
theorem ff_none {n : Nat} {ts : List Int} : ff n ts = none ↔ ∀ i, i < ts.length → okAt n ts i = true := by
  unfold ff
  rw [List.find?_range_eq_none]
  simp
theorem ff_some {n d : Nat} {ts : List Int} : ff n ts = some d ↔ d < ts.length ∧ okAt n ts d = false ∧ ∀ j, j < d → okAt n ts j = true := by
  unfold ff
  rw [List.find?_range_eq_some]
  simp only [List.mem_range, Bool.not_eq_true', Bool.not_not]
  constructor
  · rintro ⟨a, b, c⟩; exact ⟨b, a, c⟩
  · rintro ⟨a, b, c⟩; exact ⟨b, a, c⟩
theorem getD_take {ts : List Int} {d i : Nat} (h : i < d) : (ts.take d).getD i 0 = ts.getD i 0 := by
  rw [List.getD_eq_getElem?_getD, List.getD_eq_getElem?_getD, List.getElem?_take_of_lt h]
theorem okAt_take {n d i : Nat} {ts : List Int} (h : i < d) : okAt n (ts.take d) i = okAt n ts i := by
  unfold okAt
  rw [getD_take h, getD_take (show i - 1 < d by omega), getD_take (show i - n < d by omega)]
theorem ff_take_none {n d : Nat} {ts : List Int} (h : ff n ts = some d) : ff n (ts.take d) = none := by
  obtain ⟨a, b, c⟩ := ff_some.mp h
  refine ff_none.mpr fun i hi => ?_
  rw [List.length_take] at hi
  rw [okAt_take (by omega)]
  exact c i (by omega)
theorem ff_take_some {n d : Nat} {ts : List Int} (h : ff n ts = some d) : ff n (ts.take (d + 1)) = some d := by
  obtain ⟨a, b, c⟩ := ff_some.mp h
  refine ff_some.mpr ⟨by rw [List.length_take]; omega, ?_, fun j hj => ?_⟩
  · rw [okAt_take (by omega)]; exact b
  · rw [okAt_take (by omega)]; exact c j hj
/-- tops as they are handed in -/
structure IsTops (ts : List Int) : Prop where
  len : ts.length ≤ 200
  all : ∀ t ∈ ts, 0 ≤ t ∧ t ≤ 999999999999999999999999999999
theorem getD_mem {ts : List Int} {i : Nat} (h : i < ts.length) : ts.getD i 0 ∈ ts := by
  rw [List.getD_eq_getElem?_getD, List.getElem?_eq_getElem h]
  exact List.getElem_mem h
theorem getD_of {ts : List Int} {i : Nat} {x : Int} (h : ts[i]? = some x) : ts.getD i 0 = x := by
  rw [List.getD_eq_getElem?_getD, h]; rfl
theorem get_of_getD {ts : List Int} {i : Nat} (h : i < ts.length) : ts[i]? = some (ts.getD i 0) := by
  rw [List.getD_eq_getElem?_getD, List.getElem?_eq_getElem h]; rfl
/-- tops that can follow never descend -/
theorem ok_step {n : Nat} {ts : List Int} {i : Nat} (hn : 1 ≤ n) (h0 : 1 ≤ i) (hp : okAt n ts (i - 1) = true) (h : okAt n ts i = true) : ts.getD (i - 1) 0 ≤ ts.getD i 0 := by
  unfold okAt at h hp
  by_cases hi : i < n
  · rw [if_pos hi] at h
    rw [if_pos (by omega)] at hp
    have h := of_decide_eq_true h
    have hp := of_decide_eq_true hp
    omega
  · rw [if_neg hi] at h
    have := Bool.and_eq_true_iff.mp h
    exact of_decide_eq_true this.1
theorem ok_mono {n : Nat} {ts : List Int} {m : Nat} (hn : 1 ≤ n) (h : ∀ j, j ≤ m → okAt n ts j = true) : ∀ k a, a + k ≤ m → ts.getD a 0 ≤ ts.getD (a + k) 0
  | 0, a, _ => Int.le_refl _
  | k + 1, a, hk => by
    have ih := ok_mono hn h k a (by omega)
    have st := ok_step (i := a + (k + 1)) hn (by omega) (h _ (by omega)) (h _ hk)
    have e : a + (k + 1) - 1 = a + k := by omega
    rw [e] at st
    omega
theorem ok_le {n : Nat} {ts : List Int} {m a b : Nat} (hn : 1 ≤ n) (h : ∀ j, j ≤ m → okAt n ts j = true) (hab : a ≤ b) (hb : b ≤ m) : ts.getD a 0 ≤ ts.getD b 0 := by
  have := ok_mono hn h (b - a) a (by omega)
  rwa [show a + (b - a) = b by omega] at this
/-- the law's own look at one top -/
def bad1 (n : Nat) (ts : List Int) (i : Nat) : Bool := (decide (i < n) && decide (ts.getD i 0 ≠ 0)) || (decide (n ≤ i) && decide (ts.getD i 0 < 1))
def bad2 (n : Nat) (ts : List Int) (i : Nat) : Bool := (decide (0 < i) && decide (ts.getD i 0 < ts.getD (i - 1) 0)) || (decide (n ≤ i) && decide ((ts.drop (i - n)).take (n + 1) = List.replicate (n + 1) (ts.getD i 0)))
theorem bad_ok {n : Nat} {ts : List Int} {i : Nat} (hn : 1 ≤ n) (hi : i < ts.length) (h0 : ∀ t ∈ ts, 0 ≤ t) (h : ∀ j, j < i → okAt n ts j = true) : (bad1 n ts i || bad2 n ts i) = !okAt n ts i := by
  have hz : ∀ j, j < ts.length → 0 ≤ ts.getD j 0 := fun j hj => h0 _ (getD_mem hj)
  have g0 := hz i hi
  by_cases hin : i < n
  · have e1 : okAt n ts i = decide (ts.getD i 0 = 0) := by unfold okAt; rw [if_pos hin]
    rw [e1]
    by_cases hv : ts.getD i 0 = 0
    · have b1 : bad1 n ts i = false := by
        unfold bad1
        rw [hv]
        simp; omega
      have b2 : bad2 n ts i = false := by
        unfold bad2
        rw [show decide (n ≤ i) = false from decide_eq_false (by omega), Bool.false_and, Bool.or_false]
        by_cases hi0 : 0 < i
        · have := hz (i - 1) (by omega)
          have q := h (i - 1) (by omega)
          unfold okAt at q
          rw [if_pos (by omega)] at q
          have q := of_decide_eq_true q
          rw [q, hv]; simp
        · simp [hi0]
      rw [b1, b2, hv]; rfl
    · have b1 : bad1 n ts i = true := by
        unfold bad1
        rw [decide_eq_true hin, decide_eq_true hv]; rfl
      rw [b1, decide_eq_false hv]; rfl
  · have hni : n ≤ i := by omega
    have e1 : okAt n ts i = (decide (ts.getD (i - 1) 0 ≤ ts.getD i 0) && decide (ts.getD (i - n) 0 < ts.getD i 0)) := by unfold okAt; rw [if_neg hin]
    rw [e1]
    have gp := hz (i - n) (by omega)
    have gl := hz (i - 1) (by omega)
    have inc : ∀ a b, a ≤ b → b ≤ i - 1 → ts.getD a 0 ≤ ts.getD b 0 := fun a b hab hb => ok_le (m := i - 1) hn (fun j hj => h j (by omega)) hab hb
    by_cases hle : ts.getD (i - 1) 0 ≤ ts.getD i 0
    · by_cases hlt : ts.getD (i - n) 0 < ts.getD i 0
      · have b1 : bad1 n ts i = false := by
          unfold bad1
          rw [decide_eq_false hin, Bool.false_and, Bool.false_or, decide_eq_false (show ¬ ts.getD i 0 < 1 by omega), Bool.and_false]
        have b2 : bad2 n ts i = false := by
          unfold bad2
          rw [decide_eq_false (show ¬ ts.getD i 0 < ts.getD (i - 1) 0 by omega), Bool.and_false, Bool.false_or, decide_eq_true hni, Bool.true_and]
          refine decide_eq_false fun e => ?_
          have q := congrArg (fun l : List Int => l.getD 0 0) e
          have q1 : ((ts.drop (i - n)).take (n + 1)).getD 0 0 = ts.getD (i - n) 0 := by
            rw [getD_take (by omega), List.getD_eq_getElem?_getD, List.getElem?_drop, List.getD_eq_getElem?_getD]; rfl
          have q2 : (List.replicate (n + 1) (ts.getD i 0)).getD 0 0 = ts.getD i 0 := rfl
          have q' : ((ts.drop (i - n)).take (n + 1)).getD 0 0 = (List.replicate (n + 1) (ts.getD i 0)).getD 0 0 := q
          rw [q1, q2] at q'
          omega
        rw [b1, b2, decide_eq_true hle, decide_eq_true hlt]; rfl
      · rw [decide_eq_false hlt, Bool.and_false]
        have b2 : bad2 n ts i = true := by
          unfold bad2
          rw [decide_eq_true hni, Bool.true_and, Bool.or_eq_true]
          right
          refine decide_eq_true (List.ext_getElem? fun k => ?_)
          by_cases hk : k < n + 1
          · rw [List.getElem?_take_of_lt hk, List.getElem?_drop, List.getElem?_replicate, if_pos hk, get_of_getD (by omega)]
            have : ts.getD (i - n + k) 0 = ts.getD i 0 := by
              by_cases hkn : k = n
              · subst hkn; rw [show i - k + k = i by omega]
              · have a1 := inc (i - n) (i - n + k) (by omega) (by omega)
                have a2 := inc (i - n + k) (i - 1) (by omega) (by omega)
                omega
            rw [this]
          · rw [List.getElem?_eq_none (by rw [List.length_take]; omega), List.getElem?_eq_none (by rw [List.length_replicate]; omega)]
        rw [b2, Bool.or_true]; rfl
    · rw [decide_eq_false hle, Bool.false_and]
      have b2 : bad2 n ts i = true := by
        unfold bad2
        rw [decide_eq_true (show 0 < i by omega), decide_eq_true (show ts.getD i 0 < ts.getD (i - 1) 0 by omega)]; rfl
      rw [b2, Bool.or_true]; rfl
/-- tops that are possible -/
def Poss (n : Nat) (ts : List Int) : Prop := ∀ i, i < ts.length → okAt n ts i = true
theorem Poss.ff {n : Nat} {ts : List Int} (h : Poss n ts) : ff n ts = none := ff_none.mpr h
theorem poss_zeros {n m : Nat} (h : m ≤ n) : Poss n (List.replicate m 0) := fun i hi => by
  rw [List.length_replicate] at hi
  unfold okAt
  rw [if_pos (by omega)]
  refine decide_eq_true ?_
  rw [List.getD_eq_getElem?_getD, List.getElem?_replicate, if_pos hi]; rfl
theorem getD_append_left {a b : List Int} {i : Nat} (h : i < a.length) : (a ++ b).getD i 0 = a.getD i 0 := by
  rw [List.getD_eq_getElem?_getD, List.getD_eq_getElem?_getD, List.getElem?_append_left h]
theorem getD_rep {a : List Int} {m i : Nat} {x : Int} (h : a.length ≤ i) (h2 : i < a.length + m) : (a ++ List.replicate m x).getD i 0 = x := by
  rw [List.getD_eq_getElem?_getD, List.getElem?_append_right h, List.getElem?_replicate, if_pos (by omega)]; rfl
/-- one group more -/
theorem poss_group {n m : Nat} {ts : List Int} {x : Int} (hn : 1 ≤ n) (h : Poss n ts) (hl : n ≤ ts.length) (hm : m ≤ n) (hx : ∀ t ∈ ts, t < x) : Poss n (ts ++ List.replicate m x) := fun i hi => by
  rw [List.length_append, List.length_replicate] at hi
  by_cases hc : i < ts.length
  · have q := h i hc
    unfold okAt at q ⊢
    rw [getD_append_left hc, getD_append_left (show i - 1 < ts.length by omega), getD_append_left (show i - n < ts.length by omega)]
    exact q
  · unfold okAt
    rw [if_neg (by omega), getD_rep (by omega) hi, getD_append_left (show i - n < ts.length by omega)]
    have h1 := hx _ (getD_mem (show i - n < ts.length by omega))
    rw [decide_eq_true h1, Bool.and_true]
    refine decide_eq_true ?_
    by_cases hp : i - 1 < ts.length
    · rw [getD_append_left hp]
      have := hx _ (getD_mem hp)
      omega
    · rw [getD_rep (by omega) (by omega)]
      exact Int.le_refl _
end Lc
namespace Lc
open PySem PySem.Spec PyProof.Rows L2
theorem eqv_lst (ns ms : List Int) : PyData.eqv (.list (ns.map PyData.int)) (.list (ms.map PyData.int)) = decide (ns = ms) := by
  show PyData.eqvAll _ _ = _
  exact PySem.W.ked_eqvAll ns ms
/-- a test by its answer -/
theorem pt_of {t : TT} {σ : L2.St} {H : Hp} {k0 : Bool → Hp → Prop} (b : Bool) (h : ∀ k : Bool → Hp → Prop, (∀ H2, Same H H2 → k b H2) → t σ H k) (hk : ∀ H2, Same H H2 → k0 b H2) : t σ H k0 := h k0 hk
/-- if, by its test's answer -/
theorem seqIf {c : TT} {A B u : TS} {D : Ends} {σ : L2.St} {H : Hp} (b : Bool) (hc : ∀ k : Bool → Hp → Prop, (∀ H2, Same H H2 → k b H2) → c σ H k)
    (hk : ∀ H2, Same H H2 → if b = true then A { D with nx := fun σ' H' => u D σ' H' } σ H2 else B { D with nx := fun σ' H' => u D σ' H' } σ H2) : tSeq (tIfS c A B) u D σ H := hc _ hk
/-- if without else -/
theorem seqIf0 {c : TT} {A u : TS} {D : Ends} {σ : L2.St} {H : Hp} (b : Bool) (hc : ∀ k : Bool → Hp → Prop, (∀ H2, Same H H2 → k b H2) → c σ H k)
    (hk : ∀ H2, Same H H2 → if b = true then A { D with nx := fun σ' H' => u D σ' H' } σ H2 else u D σ H2) : tSeq (tIfS c A tNext) u D σ H := hc _ hk
theorem lastIf0 {c : TT} {A : TS} {D : Ends} {σ : L2.St} {H : Hp} (b : Bool) (hc : ∀ k : Bool → Hp → Prop, (∀ H2, Same H H2 → k b H2) → c σ H k)
    (hk : ∀ H2, Same H H2 → if b = true then A D σ H2 else D.nx σ H2) : tIfS c A tNext D σ H := hc _ hk
theorem lastIf {c : TT} {A B : TS} {D : Ends} {σ : L2.St} {H : Hp} (b : Bool) (hc : ∀ k : Bool → Hp → Prop, (∀ H2, Same H H2 → k b H2) → c σ H k)
    (hk : ∀ H2, Same H H2 → if b = true then A D σ H2 else B D σ H2) : tIfS c A B D σ H := hc _ hk
/-- a statement, then what follows, by what stands between them -/
theorem seqJ {c : TT} {A B u : TS} {D : Ends} {σ : L2.St} {H : Hp} (Inv : L2.St → Hp → Prop) (h1 : (∀ σ' H', Inv σ' H' → u D σ' H') → tIfS c A B { D with nx := u D } σ H) (h2 : ∀ σ' H', Inv σ' H' → u D σ' H') : tSeq (tIfS c A B) u D σ H := h1 h2
/-- a name is set -/
theorem setG {i : Nat} {x : V} {σ : L2.St} {H : Hp} {N : L2.St → Hp → Prop} {r : VK} {b c : L2.St → Hp → Prop} (h : N (σ.set i (some x)) H) : gName i x σ H (Ends.nx { nx := N, rt := r, bk := b, ct := c }) := h
theorem snoc_map (xs : List Int) (x : Int) : xs.map V.int ++ [V.int x] = (xs ++ [x]).map V.int := by rw [List.map_append]; rfl
/-- a comprehension over a list of ints -/
theorem map_lc {K : PySem.W.Frag} {a D : Addr} {ns : List Int} {te : TE} {j : Nat} {vs : List Nat} {σ : L2.St} {H : Hp} {Qd : Hp → Prop} (fn : Int → Int) (hA : SqL K H a (ns.map V.int)) (hl : ns.length ≤ 1000) (nD : H D = none)
    (hw : ∀ v, wipe ((wipe σ vs).set j (some v)) vs = wipe σ vs) (ht : ∀ x ∈ ns, ∀ (H' : Hp) (Q : VK), Q (.int (fn x)) H' → te ((wipe σ vs).set j (some (.int x))) H' Q)
    (k : ∀ H', Same H H' → H' D = some (.lst ((ns.map fn).map V.int)) → Qd H') :
    ∃ W : Nat → Nat → Hp → Prop, (∃ m, W 0 m (upd H D (.lst []))) ∧ ∀ i m H, W i m H →
      ((Itl K a).stop i H ∧ Qd H) ∨ ((Itl K a).go i H ∧ ∃ Nx : Hp → Prop, (∀ H', Nx H' → ∃ m', m' < m ∧ W (i + 1) m' H') ∧ ∀ x H', (Itl K a).yld i H x H' → gName j x (wipe σ vs) H' fun σ2 H2 => wipe σ2 vs = wipe σ vs ∧ tYes σ2 H2 fun b H3 =>
        if b = true then te σ2 H3 fun y H4 => ∃ acc, H4 D = some (.lst acc) ∧ acc.length < sizeLine ∧ Nx (upd H4 D (.lst (acc ++ [y]))) else Nx H3) := by
  refine lc_list (K := K) (a := a) (xs := ns.map V.int) (fun i H' => Same H H' ∧ H' D = some (.lst (((ns.map fn).take i).map V.int))) ⟨same_new _ nD, upd_same⟩ (fun i H' _ h => h.1.seq hA) (fun i v H' ev h => ?_) (fun H' h => ?_)
  · obtain ⟨x, ex, rfl⟩ := get_map ev
    refine ⟨hw _, ?_⟩
    show te ((wipe σ vs).set j (some (.int x))) H' _
    refine ht x (List.mem_of_getElem? ex) _ _ ⟨_, h.2, ?_, same_set h.1 nD, ?_⟩
    · rw [List.length_map, List.length_take]; exact small_of (m := 1000) (by rw [List.length_map]; omega) (by decide)
    · rw [upd_same]
      refine congrArg (fun z => some (HO.lst z)) (take_map_succ V.int ?_)
      rw [List.getElem?_map, ex]; rfl
  · obtain ⟨sm, eD⟩ := h
    have e1 : (ns.map V.int).length = (ns.map fn).length := by rw [List.length_map, List.length_map]
    rw [e1, List.take_length] at eD
    exact k H' sm eD
/-- a comprehension with a test over a list of ints -/
theorem fmap_lc {K : PySem.W.Frag} {a D : Addr} {ns : List Int} {tt : TT} {te : TE} {j : Nat} {vs : List Nat} {σ : L2.St} {H : Hp} {Qd : Hp → Prop} (fn : Int → Int) (pr : Int → Bool) (hA : SqL K H a (ns.map V.int)) (hl : ns.length ≤ 1000) (nD : H D = none)
    (hw : ∀ v, wipe ((wipe σ vs).set j (some v)) vs = wipe σ vs) (htt : ∀ x ∈ ns, ∀ (H' : Hp) (Q : Bool → Hp → Prop), Q (pr x) H' → tt ((wipe σ vs).set j (some (.int x))) H' Q) (ht : ∀ x ∈ ns, ∀ (H' : Hp) (Q : VK), Q (.int (fn x)) H' → te ((wipe σ vs).set j (some (.int x))) H' Q)
    (k : ∀ H', Same H H' → H' D = some (.lst (((ns.filter pr).map fn).map V.int)) → Qd H') :
    ∃ W : Nat → Nat → Hp → Prop, (∃ m, W 0 m (upd H D (.lst []))) ∧ ∀ i m H, W i m H →
      ((Itl K a).stop i H ∧ Qd H) ∨ ((Itl K a).go i H ∧ ∃ Nx : Hp → Prop, (∀ H', Nx H' → ∃ m', m' < m ∧ W (i + 1) m' H') ∧ ∀ x H', (Itl K a).yld i H x H' → gName j x (wipe σ vs) H' fun σ2 H2 => wipe σ2 vs = wipe σ vs ∧ tt σ2 H2 fun b H3 =>
        if b = true then te σ2 H3 fun y H4 => ∃ acc, H4 D = some (.lst acc) ∧ acc.length < sizeLine ∧ Nx (upd H4 D (.lst (acc ++ [y]))) else Nx H3) := by
  refine lc_list (K := K) (a := a) (xs := ns.map V.int) (fun i H' => Same H H' ∧ H' D = some (.lst ((((ns.take i).filter pr).map fn).map V.int))) ⟨same_new _ nD, upd_same⟩ (fun i H' _ h => h.1.seq hA) (fun i v H' ev h => ?_) (fun H' h => ?_)
  · obtain ⟨x, ex, rfl⟩ := get_map ev
    have e1 : ns.take (i + 1) = ns.take i ++ [x] := by rw [List.take_add_one, ex]; rfl
    refine ⟨hw _, ?_⟩
    show tt ((wipe σ vs).set j (some (.int x))) H' _
    refine htt x (List.mem_of_getElem? ex) _ _ ?_
    cases hp : pr x with
    | true =>
      refine ite_t rfl (ht x (List.mem_of_getElem? ex) _ _ ⟨_, h.2, ?_, same_set h.1 nD, ?_⟩)
      · rw [List.length_map, List.length_map]
        have := List.length_filter_le pr (ns.take i)
        rw [List.length_take] at this
        exact small_of (m := 1000) (by omega) (by decide)
      · rw [upd_same, e1, List.filter_append, List.filter_cons, if_pos hp, List.map_append, List.map_append]; rfl
    | false =>
      refine ite_f Bool.false_ne_true ⟨h.1, ?_⟩
      rw [e1, List.filter_append, List.filter_cons, if_neg (by rw [hp]; exact Bool.false_ne_true), List.filter_nil, List.append_nil]
      exact h.2
  · obtain ⟨sm, eD⟩ := h
    rw [List.length_map, List.take_length] at eD
    exact k H' sm eD
theorem ite_of {tt : Bool} {σ : L2.St} {H : Hp} {Q : VK} {c1 c2 : Int} (h : Q (.int (if tt = true then c1 else c2)) H) : if tt = true then tC (.int c1) σ H Q else tC (.int c2) σ H Q := by
  cases tt <;> exact h
theorem two_of {tt : Bool} {c1 c2 lo hi : Int} (h1 : lo ≤ c1 ∧ c1 ≤ hi) (h2 : lo ≤ c2 ∧ c2 ≤ hi) : ∃ N : Int, (if tt = true then c1 else c2) = N ∧ lo ≤ N ∧ N ≤ hi := by
  cases tt
  · exact ⟨c2, rfl, h2.1, h2.2⟩
  · exact ⟨c1, rfl, h1.1, h1.2⟩
end Lc

namespace Lc
/-! ### groups of equal tops -/
def flat (gs : List (Int × Nat)) : List Int := gs.flatMap fun g => List.replicate g.2 g.1
theorem flat_app (a b : List (Int × Nat)) : flat (a ++ b) = flat a ++ flat b := List.flatMap_append
theorem flat_one (v : Int) (s : Nat) : flat [(v, s)] = List.replicate s v := by
  unfold flat
  rw [List.flatMap_cons, List.flatMap_nil, List.append_nil]
def rlS (acc : List (Int × Nat)) (x : Int) : List (Int × Nat) := match acc.getLast? with
  | some g => if g.1 = x then acc.dropLast ++ [(g.1, g.2 + 1)] else acc ++ [(x, 1)]
  | none => [(x, 1)]
def rl (l : List Int) : List (Int × Nat) := l.foldl rlS []
theorem rl_snoc (l : List Int) (x : Int) : rl (l ++ [x]) = rlS (rl l) x := by
  unfold rl
  rw [List.foldl_append]; rfl
theorem snoc_ind {α : Type} {P : List α → Prop} (h0 : P []) (h1 : ∀ l x, P l → P (l ++ [x])) : ∀ l, P l := by
  intro l
  have h : ∀ k, k ≤ l.length → P (l.take k) := fun k => by
    induction k with
    | zero => intro _; exact h0
    | succ k ih =>
      intro hk
      have e : l.take (k + 1) = l.take k ++ [l[k]] := by rw [List.take_add_one, List.getElem?_eq_getElem (by omega)]; rfl
      rw [e]
      exact h1 _ _ (ih (by omega))
  have := h l.length (Nat.le_refl _)
  rwa [List.take_length] at this
theorem last_snoc {α : Type} (l : List α) (x : α) : (l ++ [x]).getLast? = some x := by simp
theorem rlS_last (acc : List (Int × Nat)) (x : Int) : ∃ s, (rlS acc x).getLast? = some (x, s) := by
  unfold rlS
  split
  · rename_i g hg
    split
    · rename_i h; exact ⟨_, by rw [last_snoc, h]⟩
    · exact ⟨_, last_snoc _ _⟩
  · exact ⟨1, rfl⟩
theorem drop_last_eq {α : Type} {l : List α} {x : α} (h : l.getLast? = some x) : l = l.dropLast ++ [x] := by
  have hne : l ≠ [] := fun e => by rw [e] at h; cases h
  have := List.dropLast_concat_getLast hne
  rw [List.getLast?_eq_getLast hne] at h
  rw [← Option.some.inj h]
  exact this.symm
theorem flat_rlS (acc : List (Int × Nat)) (x : Int) : flat (rlS acc x) = flat acc ++ [x] := by
  unfold rlS
  split
  · rename_i g hg
    split
    · rename_i h
      have e := drop_last_eq hg
      conv => rhs; rw [e]
      rw [flat_app, flat_app, flat_one, show flat [g] = List.replicate g.2 g.1 from flat_one _ _, List.append_assoc, List.replicate_succ', h]
    · rw [flat_app, flat_one]; rfl
  · rename_i hg
    have e : acc = [] := List.getLast?_eq_none_iff.mp hg
    rw [e, flat_one]; rfl
theorem flat_rl : ∀ l : List Int, flat (rl l) = l := snoc_ind rfl fun l x ih => by rw [rl_snoc, flat_rlS, ih]
theorem rl_pos : ∀ l : List Int, ∀ g ∈ rl l, 1 ≤ g.2 := snoc_ind (fun g h => by cases h) fun l x ih g hg => by
  rw [rl_snoc] at hg
  unfold rlS at hg
  split at hg
  · split at hg
    · rcases List.mem_append.mp hg with h | h
      · exact ih g (List.dropLast_subset _ h)
      · rw [List.mem_singleton.mp h]; show 1 ≤ _ + 1; omega
    · rcases List.mem_append.mp hg with h | h
      · exact ih g h
      · rw [List.mem_singleton.mp h]; exact Nat.le_refl 1
  · rw [List.mem_singleton.mp hg]; exact Nat.le_refl 1
/-- the last value -/
theorem rl_last (l : List Int) (x : Int) : ∃ s, (rl (l ++ [x])).getLast? = some (x, s) := by rw [rl_snoc]; exact rlS_last _ _
theorem rl_val : ∀ l : List Int, ∀ g ∈ rl l, g.1 ∈ l := fun l g hg => by
  have e := flat_rl l
  rw [← e]
  refine List.mem_flatMap.mpr ⟨g, hg, ?_⟩
  have := rl_pos l g hg
  exact List.mem_replicate.mpr ⟨by omega, rfl⟩
/-- the sizes, as a loop finds them -/
theorem sizes_same {l : List Int} {x y : Int} (h : l.getLast? = some y) (e : x = y) : (rl (l ++ [x])).map (·.2) = ((rl l).map (·.2)).dropLast ++ [((rl l).map (·.2)).getLastD 0 + 1] := by
  have el := drop_last_eq h
  obtain ⟨s, hs⟩ := rl_last l.dropLast y
  rw [← el] at hs
  rw [rl_snoc]
  unfold rlS
  rw [hs]
  show List.map (fun g : Int × Nat => g.2) (if y = x then (rl l).dropLast ++ [(y, s + 1)] else rl l ++ [(x, 1)]) = _
  rw [if_pos e.symm]
  have e2 := drop_last_eq hs
  conv => rhs; rw [e2]
  simp
theorem sizes_new {l : List Int} {x : Int} (h : ∀ y, l.getLast? = some y → x ≠ y) : (rl (l ++ [x])).map (·.2) = (rl l).map (·.2) ++ [1] := by
  rw [rl_snoc]
  unfold rlS
  cases hl : l.getLast? with
  | none =>
    have e : l = [] := List.getLast?_eq_none_iff.mp hl
    rw [e]; rfl
  | some y =>
    have el := drop_last_eq hl
    obtain ⟨s, hs⟩ := rl_last l.dropLast y
    rw [← el] at hs
    rw [hs]
    show List.map (fun g : Int × Nat => g.2) (if y = x then (rl l).dropLast ++ [(y, s + 1)] else rl l ++ [(x, 1)]) = _
    rw [if_neg (fun z => h y hl z.symm), List.map_append]; rfl
theorem rl_nil_of {l : List Int} (h : l ≠ []) : (rl l).map (·.2) ≠ [] := fun e => by
  have e2 : rl l = [] := List.map_eq_nil_iff.mp e
  have := flat_rl l
  rw [e2] at this
  exact h this.symm
/-- values rise -/
def Up (gs : List (Int × Nat)) : Prop := (gs.map (·.1)).Pairwise (· < ·)
theorem rl_up : ∀ l : List Int, l.Pairwise (· ≤ ·) → Up (rl l) := snoc_ind (fun _ => List.Pairwise.nil) fun l x ih hp => by
  have hp' := List.pairwise_append.mp hp
  have u := ih hp'.1
  have hx : ∀ y ∈ l, y ≤ x := fun y hy => hp'.2.2 y hy x (List.mem_singleton.mpr rfl)
  rw [rl_snoc]
  unfold rlS
  split
  · rename_i g hg
    have e := drop_last_eq hg
    split
    · rename_i h
      unfold Up at u ⊢
      rw [e, List.map_append] at u
      rw [List.map_append]
      exact u
    · rename_i h
      unfold Up at u ⊢
      rw [List.map_append]
      refine List.pairwise_append.mpr ⟨u, List.pairwise_singleton _ _, fun a ha b hb => ?_⟩
      have hb' : b = x := by simpa using hb
      subst hb'
      have hgx : g.1 < b := by
        have := hx g.1 (rl_val l g (by rw [e]; exact List.mem_append_right _ (List.mem_singleton.mpr rfl)))
        omega
      rw [e, List.map_append] at ha u
      rcases List.mem_append.mp ha with ha | ha
      · have := (List.pairwise_append.mp u).2.2 a ha g.1 (by simp)
        omega
      · have : a = g.1 := by simpa using ha
        omega
  · exact List.pairwise_singleton _ _
theorem flat_at {gs : List (Int × Nat)} {j : Nat} {g : Int × Nat} (h : gs[j]? = some g) : flat gs = flat (gs.take j) ++ (List.replicate g.2 g.1 ++ flat (gs.drop (j + 1))) := by
  have hj := (List.getElem?_eq_some_iff.mp h).1
  have e : gs = gs.take j ++ (g :: gs.drop (j + 1)) := by
    have e1 : gs.drop j = g :: gs.drop (j + 1) := by
      rw [List.drop_eq_getElem_cons hj, (List.getElem?_eq_some_iff.mp h).2]
    rw [← e1, List.take_append_drop]
  conv => lhs; rw [e]
  rw [flat_app]
  rfl
theorem flat_take_succ {gs : List (Int × Nat)} {j : Nat} {g : Int × Nat} (h : gs[j]? = some g) : flat (gs.take (j + 1)) = flat (gs.take j) ++ List.replicate g.2 g.1 := by
  rw [List.take_add_one, h]
  show flat (gs.take j ++ [g]) = _
  rw [flat_app]
  exact congrArg _ (flat_one _ _)
/-- what is ahead of a group is lower -/
theorem flat_low {gs : List (Int × Nat)} (u : Up gs) {j : Nat} {g : Int × Nat} (h : gs[j]? = some g) : ∀ t ∈ flat (gs.take j), t < g.1 := fun t ht => by
  obtain ⟨g', hg', ht'⟩ := List.mem_flatMap.mp ht
  rw [(List.mem_replicate.mp ht').2]
  have hj := (List.getElem?_eq_some_iff.mp h).1
  obtain ⟨i, hi, e⟩ := List.getElem_of_mem hg'
  have hij : i < j := by rw [List.length_take] at hi; omega
  have u' := List.pairwise_iff_getElem.mp u i j (by rw [List.length_map]; omega) (by rw [List.length_map]; omega) hij
  rw [List.getElem_map, List.getElem_map] at u'
  rw [List.getElem_take] at e
  rw [e, (List.getElem?_eq_some_iff.mp h).2] at u'
  exact u'
/-! ### possible tops by groups -/
theorem Poss.sorted {n : Nat} {ts : List Int} (hn : 1 ≤ n) (h : Poss n ts) : ts.Pairwise (· ≤ ·) := by
  refine List.pairwise_iff_getElem.mpr fun i j hi hj hij => ?_
  have := ok_le (n := n) (ts := ts) (m := ts.length - 1) (a := i) (b := j) hn (fun k hk => h k (by omega)) (by omega) (by omega)
  rw [List.getD_eq_getElem?_getD, List.getD_eq_getElem?_getD, List.getElem?_eq_getElem hi, List.getElem?_eq_getElem hj] at this
  exact this
theorem Poss.zero {n : Nat} {ts : List Int} (h : Poss n ts) {i : Nat} (hi : i < n) (hl : i < ts.length) : ts.getD i 0 = 0 := by
  have q := h i hl
  unfold okAt at q
  rw [if_pos hi] at q
  exact of_decide_eq_true q
theorem Poss.above {n : Nat} {ts : List Int} (hn : 1 ≤ n) (h : Poss n ts) {i : Nat} (hi : n ≤ i) (hl : i < ts.length) : 0 < ts.getD i 0 := by
  have q := h i hl
  unfold okAt at q
  rw [if_neg (by omega)] at q
  have q2 := of_decide_eq_true (Bool.and_eq_true_iff.mp q).2
  have z := h.zero (i := 0) (by omega) (by omega)
  have := ok_le (n := n) (ts := ts) (m := ts.length - 1) (a := 0) (b := i - n) hn (fun k hk => h k (by omega)) (by omega) (by omega)
  omega
theorem Poss.take0 {n : Nat} {ts : List Int} (h : Poss n ts) : ts.take n = List.replicate (min n ts.length) 0 := by
  refine List.ext_getElem? fun i => ?_
  by_cases hi : i < min n ts.length
  · rw [List.getElem?_take_of_lt (by omega), List.getElem?_replicate, if_pos hi, get_of_getD (by omega), h.zero (by omega) (by omega)]
  · rw [List.getElem?_eq_none (by rw [List.length_take]; omega), List.getElem?_eq_none (by rw [List.length_replicate]; omega)]
def grps (n : Nat) (ts : List Int) : List (Int × Nat) := rl (ts.drop n)
theorem Poss.up {n : Nat} {ts : List Int} (hn : 1 ≤ n) (h : Poss n ts) : Up (grps n ts) := rl_up _ ((h.sorted hn).sublist (List.drop_sublist ..))
theorem Poss.flat {n : Nat} {ts : List Int} : ts = ts.take n ++ flat (grps n ts) := by
  unfold grps
  rw [flat_rl, List.take_append_drop]
/-- no group has more tops than there are columns -/
theorem Poss.most {n : Nat} {ts : List Int} (hn : 1 ≤ n) (h : Poss n ts) : ∀ g ∈ grps n ts, g.2 ≤ n := fun g hg => by
  obtain ⟨j, hj, e⟩ := List.getElem_of_mem hg
  have hg' : (grps n ts)[j]? = some g := by rw [List.getElem?_eq_getElem hj, e]
  have e1 := flat_at hg'
  have ef : Lc.flat (grps n ts) = ts.drop n := flat_rl _
  rw [ef] at e1
  refine Nat.le_of_not_lt fun hlt => ?_
  have key : ∀ k, k < g.2 → (ts.drop n)[(Lc.flat ((grps n ts).take j)).length + k]? = some g.1 := fun k hk => by
    rw [e1, List.getElem?_append_right (by omega), Nat.add_sub_cancel_left, List.getElem?_append_left (by rw [List.length_replicate]; omega), List.getElem?_replicate, if_pos hk]
  generalize (Lc.flat ((grps n ts).take j)).length = p at key
  have a0 := key 0 (by omega)
  have an := key n hlt
  rw [List.getElem?_drop] at a0 an
  have hl := (List.getElem?_eq_some_iff.mp an).1
  have q := h _ hl
  unfold okAt at q
  rw [if_neg (by omega)] at q
  have q2 := of_decide_eq_true (Bool.and_eq_true_iff.mp q).2
  rw [getD_of an, show n + (p + n) - n = n + (p + 0) by omega, getD_of a0] at q2
  omega
/-! ### ways -/
structure IsWay (n : Nat) (ts ws : List Int) : Prop where
  len : ws.length = ts.length
  head : ws.take n = (List.range (min n ts.length)).map fun k => ((k : Nat) : Int)
  all : ∀ w ∈ ws, 0 ≤ w ∧ w < n
  asc : ∀ i, n ≤ i → i < ts.length → ts.getD (i - 1) 0 < ts.getD i 0 ∨ ws.getD (i - 1) 0 < ws.getD i 0
theorem way_few {n m : Nat} (h : m ≤ n) : IsWay n (List.replicate m 0) ((List.range m).map fun k => ((k : Nat) : Int)) := by
  refine ⟨by rw [List.length_map, List.length_range, List.length_replicate], ?_, fun w hw => ?_, fun i h1 h2 => ?_⟩
  · rw [List.length_replicate, Nat.min_eq_right h, List.take_of_length_le (by rw [List.length_map, List.length_range]; exact h)]
  · obtain ⟨k, hk, rfl⟩ := List.mem_map.mp hw
    have := List.mem_range.mp hk
    omega
  · rw [List.length_replicate] at h2; omega
/-- a group more -/
theorem way_group {n s : Nat} {ts ws cs : List Int} {v : Int} (hn : 1 ≤ n) (h : IsWay n ts ws) (hl : n ≤ ts.length) (hv : ∀ t ∈ ts, t < v) (hc : cs.length = s) (hr : ∀ c ∈ cs, 0 ≤ c ∧ c < n) (ha : cs.Pairwise (· < ·)) : IsWay n (ts ++ List.replicate s v) (ws ++ cs) := by
  have hlw := h.len
  refine ⟨by rw [List.length_append, List.length_append, List.length_replicate, hc, hlw], ?_, fun w hw => ?_, fun i h1 h2 => ?_⟩
  · rw [List.take_append_of_le_length (by omega), h.head, List.length_append, Nat.min_eq_left hl, Nat.min_eq_left (by omega)]
  · rcases List.mem_append.mp hw with hw | hw
    · exact h.all w hw
    · exact hr w hw
  · rw [List.length_append, List.length_replicate] at h2
    by_cases hi : i < ts.length
    · rw [getD_append_left hi, getD_append_left (show i - 1 < ts.length by omega), getD_append_left (show i < ws.length by omega), getD_append_left (show i - 1 < ws.length by omega)]
      exact h.asc i h1 hi
    · rw [getD_rep (by omega) h2]
      by_cases hp : i - 1 < ts.length
      · left
        rw [getD_append_left hp]
        exact hv _ (getD_mem hp)
      · right
        have e : ∀ k, ts.length ≤ k → k < ts.length + s → (ws ++ cs).getD k 0 = cs.getD (k - ts.length) 0 := fun k hk hk2 => by
          rw [List.getD_eq_getElem?_getD, List.getD_eq_getElem?_getD, List.getElem?_append_right (by omega), hlw]
        rw [e _ (by omega) (by omega), e _ (by omega) h2]
        have := List.pairwise_iff_getElem.mp ha (i - 1 - ts.length) (i - ts.length) (by omega) (by omega) (by omega)
        rw [List.getD_eq_getElem?_getD, List.getD_eq_getElem?_getD, List.getElem?_eq_getElem (by omega), List.getElem?_eq_getElem (by omega)]
        exact this
/-! ### the heights of the cards of a way -/
def nx (B : Int) (c : Int) : List (Int × Int) → Int
  | [] => B
  | p :: r => if p.1 = c then p.2 else nx B c r
/-- the item at i -/
def hwy (B : Int) (ts ws : List Int) (i : Nat) : Int := nx B (ws.getD i 0) ((ws.zip ts).drop (i + 1)) - ts.getD i 0
theorem zip_drop {ts ws : List Int} {i : Nat} (h : i < ts.length) (hl : ws.length = ts.length) : (ws.zip ts).drop i = (ws.getD i 0, ts.getD i 0) :: (ws.zip ts).drop (i + 1) := by
  have hz : i < (ws.zip ts).length := by rw [List.length_zip]; omega
  rw [List.drop_eq_getElem_cons hz, List.getElem_zip]
  rw [List.getD_eq_getElem?_getD, List.getD_eq_getElem?_getD, List.getElem?_eq_getElem (by omega), List.getElem?_eq_getElem h]
  rfl
theorem nx_filter (B c : Int) : ∀ ps : List (Int × Int), nx B c ps = (((ps.filter fun p => decide (p.1 = c)).map (·.2)) ++ [B]).headD 0
  | [] => rfl
  | p :: r => by
    unfold nx
    by_cases h : p.1 = c
    · rw [if_pos h, List.filter_cons, if_pos (decide_eq_true h)]; rfl
    · rw [if_neg h, List.filter_cons, if_neg (by simpa using h)]
      exact nx_filter B c r
end Lc

namespace Lc
def hsI (L i : Nat) (v : Nat → Int) : List Int := (List.range L).map fun k => if k < L - i then 0 else v k
theorem hsI_len (L i : Nat) (v : Nat → Int) : (hsI L i v).length = L := by unfold hsI; rw [List.length_map, List.length_range]
theorem hsI_zero (L : Nat) (v : Nat → Int) : hsI L 0 v = List.replicate L 0 := by
  refine List.ext_getElem? fun k => ?_
  unfold hsI
  by_cases h : k < L
  · rw [List.getElem?_map, List.getElem?_range h, List.getElem?_replicate, if_pos h]
    show some (if k < L - 0 then (0 : Int) else v k) = _
    rw [if_pos (by omega)]
  · rw [List.getElem?_eq_none (by rw [List.length_map, List.length_range]; omega), List.getElem?_eq_none (by rw [List.length_replicate]; omega)]
theorem hsI_all (L : Nat) (v : Nat → Int) : hsI L L v = (List.range L).map v := by
  unfold hsI
  refine List.map_congr_left fun k hk => ?_
  rw [if_neg (by omega)]
theorem hsI_set {L i : Nat} (v : Nat → Int) (h : i < L) : (hsI L i v).set (L - 1 - i) (v (L - 1 - i)) = hsI L (i + 1) v := by
  refine List.ext_getElem? fun k => ?_
  rw [List.getElem?_set]
  unfold hsI
  by_cases hk : k < L
  · by_cases e : L - 1 - i = k
    · rw [if_pos e, if_pos (by rw [List.length_map, List.length_range]; omega), List.getElem?_map, List.getElem?_range hk]
      show _ = some (if k < L - (i + 1) then (0 : Int) else v k)
      rw [if_neg (by omega), e]
    · rw [if_neg e, List.getElem?_map, List.getElem?_range hk, List.getElem?_map, List.getElem?_range hk]
      show some (if k < L - i then (0 : Int) else v k) = some (if k < L - (i + 1) then (0 : Int) else v k)
      by_cases q : k < L - i
      · rw [if_pos q, if_pos (by omega)]
      · rw [if_neg q, if_neg (by omega)]
  · rw [if_neg (by omega), List.getElem?_eq_none (by rw [List.length_map, List.length_range]; omega), List.getElem?_eq_none (by rw [List.length_map, List.length_range]; omega)]
def btI (B : Int) (n : Nat) (ps : List (Int × Int)) : List Int := (List.range n).map fun c => nx B ((c : Nat) : Int) ps
theorem btI_len (B : Int) (n : Nat) (ps : List (Int × Int)) : (btI B n ps).length = n := by unfold btI; rw [List.length_map, List.length_range]
theorem btI_get {B : Int} {n : Nat} {ps : List (Int × Int)} {c : Nat} (h : c < n) : (btI B n ps)[c]? = some (nx B ((c : Nat) : Int) ps) := by
  unfold btI
  rw [List.getElem?_map, List.getElem?_range h]; rfl
theorem btI_nil (B : Int) (n : Nat) : btI B n [] = List.replicate n B := by
  refine List.ext_getElem? fun k => ?_
  by_cases h : k < n
  · rw [btI_get h, List.getElem?_replicate, if_pos h]; rfl
  · rw [List.getElem?_eq_none (by rw [btI_len]; omega), List.getElem?_eq_none (by rw [List.length_replicate]; omega)]
theorem btI_cons {B t : Int} {n c : Nat} (h : c < n) (ps : List (Int × Int)) : btI B n ((((c : Nat) : Int), t) :: ps) = (btI B n ps).set c t := by
  refine List.ext_getElem? fun k => ?_
  rw [List.getElem?_set]
  by_cases hk : k < n
  · by_cases e : c = k
    · subst e
      rw [if_pos rfl, if_pos (by rw [btI_len]; exact h), btI_get h]
      show some (if ((c : Nat) : Int) = ((c : Nat) : Int) then t else _) = _
      rw [if_pos rfl]
    · rw [if_neg e, btI_get hk, btI_get hk]
      show some (if ((c : Nat) : Int) = ((k : Nat) : Int) then t else _) = _
      rw [if_neg (by omega)]
  · rw [if_neg (by omega), List.getElem?_eq_none (by rw [btI_len]; omega), List.getElem?_eq_none (by rw [btI_len]; omega)]
/-- the heights of the cards of a way: B ends the last ones -/
def cow (B : Int) (ts ws : List Int) : List Int := (List.range ts.length).map (hwy B ts ws)
theorem cow_len (B : Int) (ts ws : List Int) : (cow B ts ws).length = ts.length := by unfold cow; rw [List.length_map, List.length_range]
theorem nodup_range (m : Nat) : ((List.range m).map fun k => ((k : Nat) : Int)).Nodup := by
  refine List.Pairwise.map _ (fun a b h => ?_) (List.nodup_range (n := m))
  show ((a : Nat) : Int) ≠ ((b : Nat) : Int)
  omega
theorem up_of {cs : List Int} (s : cs.Pairwise (· ≤ ·)) (d : cs.Nodup) : cs.Pairwise (· < ·) := by
  refine List.pairwise_iff_getElem.mpr fun i j hi hj hij => ?_
  have a := List.pairwise_iff_getElem.mp s i j hi hj hij
  have b := List.pairwise_iff_getElem.mp d i j hi hj hij
  omega
theorem nx_in {B c lo hi : Int} (hB : lo ≤ B ∧ B ≤ hi) : ∀ ps : List (Int × Int), (∀ p ∈ ps, lo ≤ p.2 ∧ p.2 ≤ hi) → lo ≤ nx B c ps ∧ nx B c ps ≤ hi
  | [], _ => hB
  | p :: r, h => by
    unfold nx
    split
    · exact h p List.mem_cons_self
    · exact nx_in hB r fun x hx => h x (List.mem_cons_of_mem _ hx)
theorem cow_in {B lo hi : Int} {ts ws : List Int} (hB : lo ≤ B ∧ B ≤ hi) (h : ∀ t ∈ ts, lo ≤ t ∧ t ≤ hi) : ∀ c ∈ cow B ts ws, lo - hi ≤ c ∧ c ≤ hi - lo := fun c hc => by
  obtain ⟨i, hi', rfl⟩ := List.mem_map.mp hc
  have hil := List.mem_range.mp hi'
  unfold hwy
  have h1 := nx_in (c := ws.getD i 0) hB ((ws.zip ts).drop (i + 1)) fun p hp => h _ (List.of_mem_zip (List.mem_of_mem_drop hp : (p.1, p.2) ∈ ws.zip ts)).2
  have h2 := h _ (Lc.getD_mem hil)
  omega
end Lc
namespace Lc
open PySem PySem.Spec PyProof.Rows L2
theorem atI_lastD {ts : List Int} (hl : 0 < ts.length) : atI (ts.map V.int) (-1) = some (.int (ts.getD (ts.length - 1) 0)) := by
  have hne : ts ≠ [] := fun e => by rw [e] at hl; simp at hl
  have e := (List.dropLast_concat_getLast hne).symm
  have e2 : ts.getLast hne = ts.getD (ts.length - 1) 0 := by
    rw [List.getLast_eq_getElem, List.getD_eq_getElem?_getD, List.getElem?_eq_getElem (by omega)]; rfl
  rw [← e2]
  conv => lhs; rw [e, List.map_append]
  exact atI_last _ _
end Lc

namespace PySem.W
open PySem PySem.Calls
namespace MGC
theorem entry_comb : entryFor table "math.comb" = some Builtin.«math.comb» := entryFor_of_tree (by kernel_rfl)
theorem kind_comb : builtinKind "math.comb" = none := by kernel_rfl
theorem plain_comb : plainId "math.comb" = true := by decide +kernel
theorem args_comb (a b : Value) : argsOk "math.comb" ⟨[a, b], []⟩ := by unfold argsOk; kernel_rfl
end MGC
theorem mg_run_comb (a : Int) (t : Tok) (b : Int) (u : Tok) (hc0 : ¬ a < 0) (hc1 : ¬ b < 0) (hc2 : ¬ b > a) (hc3 : ¬ min b (a - b) > Builtin.Math.maxSsize) (hc4 : ¬ min b (a - b) > Builtin.Math.manyFactors) (hc5 : ¬ min b (a - b) > 9000)
    (hsz : (Builtin.Math.fallingProduct a (min b (a - b)).toNat / Builtin.Math.fallingProduct (min b (a - b)) (min b (a - b)).toNat).natAbs.log2 < bitsLine) :
    Gives (Builtin.«math.comb» ⟨[.int a t, .int b u], []⟩) (.int (Builtin.Math.fallingProduct a (min b (a - b)).toNat / Builtin.Math.fallingProduct (min b (a - b)) (min b (a - b)).toNat)) :=
  .of_wp fun M A E s Q h => by obtain ⟨hp, g, d, tk, os⟩ := s; wp_walk; (try (refine wpAny_ite_false (decide_eq_false (Nat.not_le.mpr hsz)) ?_; wp_walk)); exact ⟨_, rfl, h⟩
end PySem.W
namespace Lc
open PySem PySem.Spec PyProof.Rows L2
/-- the number of sets of k of n things -/
def bin : Nat → Nat → Nat
  | _, 0 => 1
  | 0, _ + 1 => 0
  | n + 1, k + 1 => bin n k + bin n (k + 1)
theorem comb_bin : ∀ a, a < 31 → ∀ b, b < a + 1 → (Builtin.Math.fallingProduct ((a : Nat) : Int) (min ((b : Nat) : Int) (((a : Nat) : Int) - ((b : Nat) : Int))).toNat / Builtin.Math.fallingProduct (min ((b : Nat) : Int) (((a : Nat) : Int) - ((b : Nat) : Int))) (min ((b : Nat) : Int) (((a : Nat) : Int) - ((b : Nat) : Int))).toNat) = ((bin a b : Nat) : Int) := by decide +kernel
theorem bin_small : ∀ a, a < 31 → ∀ b, b < a + 1 → bin a b < 1000000000 := by decide +kernel
def rComb : List V → Hp → VK → Prop := fun vs H Q => ∃ a b : Nat, vs = [.int (a : Nat), .int (b : Nat)] ∧ b ≤ a ∧ a ≤ 30 ∧ Q (.int ((bin a b : Nat) : Int)) H
theorem cr_comb {X : Cx} : CallR X (.builtin "math.comb") rComb := by
  intro pins s σ H vs us Q I r h
  obtain ⟨a, b, rfl, hb, ha, q⟩ := h
  obtain ⟨t, u, rfl⟩ := Vals.int2 r
  have e := comb_bin a (by omega) b (by omega)
  have sm := bin_small a (by omega) b (by omega)
  have hsz : (Builtin.Math.fallingProduct ((a : Nat) : Int) (min ((b : Nat) : Int) (((a : Nat) : Int) - ((b : Nat) : Int))).toNat / Builtin.Math.fallingProduct (min ((b : Nat) : Int) (((a : Nat) : Int) - ((b : Nat) : Int))) (min ((b : Nat) : Int) (((a : Nat) : Int) - ((b : Nat) : Int))).toNat).natAbs.log2 < bitsLine := by
    rw [e]
    refine Nat.lt_trans (PySem.Flt.log2_lt_of (k := 40) (by decide) ?_) (by decide +kernel)
    rw [Int.natAbs_natCast]
    exact Nat.lt_trans sm (by decide)
  have g := PySem.W.mg_run_comb ((a : Nat) : Int) t ((b : Nat) : Int) u (by omega) (by omega) (by omega) (by unfold Builtin.Math.maxSsize; omega) (by unfold Builtin.Math.manyFactors; omega) (by omega) hsz
  rw [e] at g
  exact PySem.call_function_meets PySem.W.MGC.kind_comb PySem.W.MGC.plain_comb PySem.W.MGC.entry_comb (PySem.W.MGC.args_comb _ _) g.meets ⟨.int _, H, I.tok _, ⟨_, rfl⟩, q⟩
end Lc

namespace Lc
/-! ### sets of columns by their index -/
theorem bin_zero (n : Nat) : bin n 0 = 1 := by cases n <;> rfl
theorem bin_succ (n k : Nat) : bin (n + 1) (k + 1) = bin n k + bin n (k + 1) := rfl
theorem bin_le : ∀ n k, n < k → bin n k = 0
  | 0, 0, h => absurd h (by omega)
  | 0, k + 1, _ => rfl
  | n + 1, 0, h => absurd h (by omega)
  | n + 1, k + 1, h => by rw [bin_succ, bin_le n k (by omega), bin_le n (k + 1) (by omega)]
theorem bin_self : ∀ n, bin n n = 1
  | 0 => rfl
  | n + 1 => by rw [bin_succ, bin_self n, bin_le n (n + 1) (by omega)]
theorem bin_one : ∀ n, bin n 1 = n
  | 0 => rfl
  | n + 1 => by rw [bin_succ, bin_zero, bin_one n]; omega
theorem bin_pos : ∀ n k, k ≤ n → 1 ≤ bin n k
  | n, 0, _ => by rw [bin_zero]; exact Nat.le_refl 1
  | 0, k + 1, h => absurd h (by omega)
  | n + 1, k + 1, h => by rw [bin_succ]; have := bin_pos n k (by omega); omega
/-- the set of k of the columns c, .., c + m - 1 with the index r -/
def ns : Nat → Int → Nat → Nat → List Int
  | _, _, 0, _ => []
  | 0, _, _ + 1, _ => []
  | m + 1, c, k + 1, r => if r < bin m k then c :: ns m (c + 1) k r else ns m (c + 1) (k + 1) (r - bin m k)
/-- the index of a set -/
def rs : Nat → Int → List Int → Nat
  | _, _, [] => 0
  | 0, _, _ :: _ => 0
  | m + 1, c, x :: xs => if c = x then rs m (c + 1) xs else bin m xs.length + rs m (c + 1) (x :: xs)
theorem ns_zero (m : Nat) (c : Int) (r : Nat) : ns m c 0 r = [] := by cases m <;> rfl
theorem ns_succ (m : Nat) (c : Int) (k r : Nat) : ns (m + 1) c (k + 1) r = if r < bin m k then c :: ns m (c + 1) k r else ns m (c + 1) (k + 1) (r - bin m k) := rfl
theorem rs_nil (m : Nat) (c : Int) : rs m c [] = 0 := by cases m <;> rfl
theorem rs_cons (m : Nat) (c x : Int) (xs : List Int) : rs (m + 1) c (x :: xs) = if c = x then rs m (c + 1) xs else bin m xs.length + rs m (c + 1) (x :: xs) := rfl
abbrev Asc (l : List Int) : Prop := l.Pairwise (· < ·)
structure IsSet (m : Nat) (c : Int) (k : Nat) (cs : List Int) : Prop where
  len : cs.length = k
  asc : Asc cs
  all : ∀ x ∈ cs, c ≤ x ∧ x < c + m
theorem IsSet.more {m k : Nat} {c : Int} {cs : List Int} (h : IsSet m (c + 1) k cs) : IsSet (m + 1) c k cs := ⟨h.len, h.asc, fun x hx => by have := h.all x hx; omega⟩
theorem IsSet.cons {m k : Nat} {c : Int} {cs : List Int} (h : IsSet m (c + 1) k cs) : IsSet (m + 1) c (k + 1) (c :: cs) := by
  refine ⟨by rw [List.length_cons, h.len], List.pairwise_cons.mpr ⟨fun x hx => ?_, h.asc⟩, fun x hx => ?_⟩
  · have := h.all x hx; omega
  · rcases List.mem_cons.mp hx with rfl | hx
    · omega
    · have := h.all x hx; omega
theorem ns_spec : ∀ (m k : Nat) (c : Int) (r : Nat), r < bin m k → IsSet m c k (ns m c k r) ∧ rs m c (ns m c k r) = r
  | m, 0, c, r, h => by
    rw [ns_zero]
    rw [bin_zero] at h
    exact ⟨⟨rfl, List.Pairwise.nil, fun x hx => by cases hx⟩, by rw [rs_nil]; omega⟩
  | 0, k + 1, c, r, h => by rw [bin_le 0 (k + 1) (by omega)] at h; omega
  | m + 1, k + 1, c, r, h => by
    rw [ns_succ]
    rw [bin_succ] at h
    by_cases hr : r < bin m k
    · rw [if_pos hr]
      obtain ⟨a, b⟩ := ns_spec m k (c + 1) r hr
      exact ⟨a.cons, by rw [rs_cons, if_pos rfl, b]⟩
    · rw [if_neg hr]
      obtain ⟨a, b⟩ := ns_spec m (k + 1) (c + 1) (r - bin m k) (by omega)
      refine ⟨a.more, ?_⟩
      generalize ns m (c + 1) (k + 1) (r - bin m k) = l at a b
      cases l with
      | nil => have := a.len; simp at this
      | cons x xs =>
        have hx := a.all x List.mem_cons_self
        have hl : xs.length = k := by have := a.len; rw [List.length_cons] at this; omega
        rw [rs_cons, if_neg (by omega), b, hl]
        omega
theorem IsSet.tail {m k : Nat} {c : Int} {cs : List Int} (h : IsSet (m + 1) c (k + 1) (c :: cs)) : IsSet m (c + 1) k cs := by
  have p := List.pairwise_cons.mp h.asc
  refine ⟨by have := h.len; rw [List.length_cons] at this; omega, p.2, fun x hx => ?_⟩
  have := p.1 x hx
  have := h.all x (List.mem_cons_of_mem _ hx)
  omega
theorem IsSet.rest {m k : Nat} {c x : Int} {cs : List Int} (h : IsSet (m + 1) c k (x :: cs)) (hx : c ≠ x) : IsSet m (c + 1) k (x :: cs) := by
  have p := List.pairwise_cons.mp h.asc
  have h0 := h.all x List.mem_cons_self
  refine ⟨h.len, h.asc, fun y hy => ?_⟩
  have h1 := h.all y hy
  rcases List.mem_cons.mp hy with rfl | hy
  · omega
  · have := p.1 y hy
    omega
theorem rs_spec : ∀ (m : Nat) (cs : List Int) (c : Int) (k : Nat), IsSet m c k cs → rs m c cs < bin m k ∧ ns m c k (rs m c cs) = cs
  | m, [], c, k, h => by
    have hk : k = 0 := h.len.symm
    subst hk
    rw [rs_nil, bin_zero, ns_zero]
    exact ⟨by omega, rfl⟩
  | 0, x :: xs, c, k, h => by have := h.all x List.mem_cons_self; omega
  | m + 1, x :: xs, c, k, h => by
    obtain ⟨k, rfl⟩ : ∃ j, k = j + 1 := ⟨k - 1, by have := h.len; rw [List.length_cons] at this; omega⟩
    rw [rs_cons]
    by_cases hc : c = x
    · subst hc
      rw [if_pos rfl]
      obtain ⟨a, b⟩ := rs_spec m xs (c + 1) k h.tail
      rw [bin_succ, ns_succ, if_pos a, b]
      exact ⟨by omega, rfl⟩
    · rw [if_neg hc]
      obtain ⟨a, b⟩ := rs_spec m (x :: xs) (c + 1) (k + 1) (h.rest hc)
      have hl : xs.length = k := by have := h.len; rw [List.length_cons] at this; omega
      rw [hl, bin_succ, ns_succ, if_neg (by omega), Nat.add_sub_cancel_left, b]
      exact ⟨by omega, rfl⟩
/-! ### ways of several groups -/
def cntW (n : Nat) (szs : List Nat) : Nat := szs.foldl (fun a s => a * bin n s) 1
theorem cntW_snoc (n : Nat) (szs : List Nat) (s : Nat) : cntW n (szs ++ [s]) = cntW n szs * bin n s := by unfold cntW; rw [List.foldl_append]; rfl
/-- the sets, by the groups -/
def wnR (n : Nat) : List Nat → Nat → List Int
  | [], _ => []
  | s :: rs, r => wnR n rs (r / bin n s) ++ ns n 0 s (r % bin n s)
/-- the columns of the way with the index r, behind the first ones -/
def wn (n : Nat) (szs : List Nat) (r : Nat) : List Int := wnR n szs.reverse r
theorem wn_snoc (n : Nat) (szs : List Nat) (s r : Nat) : wn n (szs ++ [s]) r = wn n szs (r / bin n s) ++ ns n 0 s (r % bin n s) := by
  unfold wn
  rw [List.reverse_append]; rfl
theorem wn_nil (n r : Nat) : wn n [] r = [] := rfl
/-- the index of what stands in l, by groups -/
def wr (n : Nat) (l : List Int) (szs : List Nat) : Nat × Nat := szs.foldl (fun p s => (p.1 * bin n s + rs n 0 ((l.drop p.2).take s), p.2 + s)) (0, 0)
theorem wr_snoc (n : Nat) (l : List Int) (szs : List Nat) (s : Nat) : wr n l (szs ++ [s]) = ((wr n l szs).1 * bin n s + rs n 0 ((l.drop (wr n l szs).2).take s), (wr n l szs).2 + s) := by
  unfold wr
  rw [List.foldl_append]; rfl
theorem wr_at (n : Nat) (l : List Int) : ∀ szs : List Nat, (wr n l szs).2 = szs.sum := by
  have : ∀ (szs : List Nat) (p : Nat × Nat), (szs.foldl (fun p s => (p.1 * bin n s + rs n 0 ((l.drop p.2).take s), p.2 + s)) p).2 = p.2 + szs.sum := fun szs => by
    induction szs with
    | nil => intro p; simp
    | cons s szs ih =>
      intro p
      rw [List.foldl_cons, ih, List.sum_cons]
      show p.2 + s + szs.sum = p.2 + (s + szs.sum)
      omega
  intro szs
  have := this szs (0, 0)
  unfold wr
  rw [this]; omega
/-- l is made of sets of these sizes -/
def IsSets (n : Nat) (l : List Int) : List Nat → Prop
  | [] => l = []
  | s :: szs => ∃ a b, l = a ++ b ∧ IsSet n 0 s a ∧ IsSets n b szs
theorem isSets_len {n : Nat} : ∀ {szs : List Nat} {l : List Int}, IsSets n l szs → l.length = szs.sum
  | [], l, h => by rw [show l = [] from h]; rfl
  | s :: szs, l, ⟨a, b, e, ha, hb⟩ => by rw [e, List.length_append, ha.len, isSets_len hb, List.sum_cons]
theorem isSets_snoc {n : Nat} : ∀ {szs : List Nat} {l c : List Int} {s : Nat}, IsSets n l szs → IsSet n 0 s c → IsSets n (l ++ c) (szs ++ [s])
  | [], l, c, s, h, hc => by
    rw [show l = [] from h]
    exact ⟨c, [], by simp, hc, rfl⟩
  | t :: szs, l, c, s, ⟨a, b, e, ha, hb⟩, hc => ⟨a, b ++ c, by rw [e, List.append_assoc], ha, isSets_snoc hb hc⟩
theorem isSets_unsnoc {n : Nat} : ∀ {szs : List Nat} {l : List Int} {s : Nat}, IsSets n l (szs ++ [s]) → ∃ a c, l = a ++ c ∧ IsSets n a szs ∧ IsSet n 0 s c
  | [], l, s, ⟨a, b, e, ha, hb⟩ => ⟨[], a, by rw [e, show b = [] from hb, List.append_nil]; rfl, rfl, ha⟩
  | t :: szs, l, s, ⟨a, b, e, ha, hb⟩ => by
    obtain ⟨a', c, e', h1, h2⟩ := isSets_unsnoc hb
    exact ⟨a ++ a', c, by rw [e, e', List.append_assoc], ⟨a, a', rfl, ha, h1⟩, h2⟩
theorem snocN_ind {P : List Nat → Prop} (h0 : P []) (h1 : ∀ l x, P l → P (l ++ [x])) : ∀ l, P l := by
  intro l
  have h : ∀ k, k ≤ l.length → P (l.take k) := fun k => by
    induction k with
    | zero => intro _; exact h0
    | succ k ih =>
      intro hk
      have e : l.take (k + 1) = l.take k ++ [l[k]] := by rw [List.take_add_one, List.getElem?_eq_getElem (by omega)]; rfl
      rw [e]
      exact h1 _ _ (ih (by omega))
  have := h l.length (Nat.le_refl _)
  rwa [List.take_length] at this
/-- what stands behind does not count -/
theorem wr_app (n : Nat) (l c : List Int) : ∀ szs : List Nat, szs.sum ≤ l.length → wr n (l ++ c) szs = wr n l szs := snocN_ind (fun _ => rfl) fun szs s ih h => by
  rw [List.sum_append] at h
  simp only [List.sum_cons, List.sum_nil] at h
  have e := ih (by omega)
  rw [wr_snoc, wr_snoc, e, wr_at]
  rw [List.drop_append_of_le_length (by omega), List.take_append_of_le_length (by rw [List.length_drop]; omega)]
theorem wn_spec (n : Nat) : ∀ (szs : List Nat) (r : Nat), r < cntW n szs → IsSets n (wn n szs r) szs ∧ (wr n (wn n szs r) szs).1 = r := snocN_ind (fun r h => by
    have : r = 0 := by unfold cntW at h; simp at h; omega
    subst this
    exact ⟨rfl, rfl⟩) fun szs s ih r h => by
  rw [cntW_snoc] at h
  have hb : 0 < bin n s := Nat.pos_of_ne_zero fun e => by rw [e, Nat.mul_zero] at h; omega
  obtain ⟨a, b⟩ := ih (r / bin n s) (Nat.div_lt_of_lt_mul (by rw [Nat.mul_comm]; exact h))
  obtain ⟨c, d⟩ := ns_spec n s 0 (r % bin n s) (Nat.mod_lt _ hb)
  rw [wn_snoc]
  refine ⟨isSets_snoc a c, ?_⟩
  rw [wr_snoc, wr_at, wr_app n _ _ szs (by rw [isSets_len a]; exact Nat.le_refl _), b]
  have hl := isSets_len a
  rw [List.drop_append_of_le_length (by omega), List.drop_of_length_le (by omega), List.nil_append, List.take_of_length_le (by rw [c.len]; exact Nat.le_refl _), d]
  have := Nat.div_add_mod r (bin n s)
  rw [Nat.mul_comm] at this
  exact this
theorem wr_spec (n : Nat) : ∀ (szs : List Nat) (l : List Int), IsSets n l szs → (wr n l szs).1 < cntW n szs ∧ wn n szs (wr n l szs).1 = l := snocN_ind (fun l h => by
    rw [show l = [] from h]
    exact ⟨Nat.zero_lt_one, rfl⟩) fun szs s ih l h => by
  obtain ⟨a, c, e, ha, hc⟩ := isSets_unsnoc h
  obtain ⟨h1, h2⟩ := ih a ha
  obtain ⟨h3, h4⟩ := rs_spec n c 0 s hc
  have hl := isSets_len ha
  subst e
  rw [wr_snoc, wr_at, wr_app n _ _ szs (by omega), List.drop_append_of_le_length (by omega), List.drop_of_length_le (by omega), List.nil_append, List.take_of_length_le (by rw [hc.len]; exact Nat.le_refl _)]
  show (wr n a szs).1 * bin n s + rs n 0 c < _ ∧ wn n (szs ++ [s]) ((wr n a szs).1 * bin n s + rs n 0 c) = _
  have hb : 0 < bin n s := by omega
  rw [cntW_snoc, wn_snoc]
  have e1 : ((wr n a szs).1 * bin n s + rs n 0 c) / bin n s = (wr n a szs).1 := by
    rw [Nat.mul_comm, Nat.mul_add_div hb, Nat.div_eq_of_lt h3]; omega
  have e2 : ((wr n a szs).1 * bin n s + rs n 0 c) % bin n s = rs n 0 c := by
    rw [Nat.mul_comm, Nat.mul_add_mod, Nat.mod_eq_of_lt h3]
  rw [e1, e2, h2, h4]
  refine ⟨?_, rfl⟩
  calc (wr n a szs).1 * bin n s + rs n 0 c < (wr n a szs).1 * bin n s + bin n s := by omega
    _ = ((wr n a szs).1 + 1) * bin n s := by rw [Nat.add_mul, Nat.one_mul]
    _ ≤ cntW n szs * bin n s := Nat.mul_le_mul_right _ h1
end Lc
namespace Lc
theorem pw_adj : ∀ {l : List Int}, (∀ i, i + 1 < l.length → l.getD i 0 < l.getD (i + 1) 0) → l.Pairwise (· < ·)
  | [], _ => List.Pairwise.nil
  | x :: l, h => by
    have ih := pw_adj (l := l) fun i hi => h (i + 1) (by rw [List.length_cons]; omega)
    refine List.pairwise_cons.mpr ⟨fun y hy => ?_, ih⟩
    cases l with
    | nil => cases hy
    | cons z zs =>
      have h0 := h 0 (by simp)
      have h0 : x < z := h0
      rcases List.mem_cons.mp hy with rfl | hy
      · exact h0
      · have := (List.pairwise_cons.mp ih).1 y hy
        omega
theorem getD_take' {l : List Int} {d i : Nat} (h : i < d) : (l.take d).getD i 0 = l.getD i 0 := getD_take h
theorem getD_drop {l : List Int} {d i : Nat} : (l.drop d).getD i 0 = l.getD (d + i) 0 := by
  rw [List.getD_eq_getElem?_getD, List.getD_eq_getElem?_getD, List.getElem?_drop]
theorem sets_of {n : Nat} : ∀ (gs : List (Int × Nat)) (l : List Int), l.length = (flat gs).length → (∀ x ∈ l, 0 ≤ x ∧ x < n) → (∀ i, i + 1 < l.length → (flat gs).getD i 0 < (flat gs).getD (i + 1) 0 ∨ l.getD i 0 < l.getD (i + 1) 0) → IsSets n l (gs.map (·.2))
  | [], l, hl, _, _ => List.length_eq_zero_iff.mp hl
  | g :: gs, l, hl, ha, hi => by
    have ef : flat (g :: gs) = List.replicate g.2 g.1 ++ flat gs := rfl
    have hll : l.length = g.2 + (flat gs).length := by rw [hl, ef, List.length_append, List.length_replicate]
    refine ⟨l.take g.2, l.drop g.2, (List.take_append_drop _ _).symm, ⟨by rw [List.length_take]; show min g.2 l.length = g.2; omega, pw_adj fun i h => ?_, fun x hx => ?_⟩, sets_of gs (l.drop g.2) (by rw [List.length_drop]; omega) (fun x hx => ha x (List.mem_of_mem_drop hx)) fun i h => ?_⟩
    · rw [List.length_take] at h
      rw [getD_take (by omega), getD_take (by omega)]
      refine (hi i (by omega)).resolve_left fun hlt => ?_
      have e : ∀ k, k < g.2 → (flat (g :: gs)).getD k 0 = g.1 := fun k hk => by
        rw [ef, List.getD_eq_getElem?_getD, List.getElem?_append_left (by rw [List.length_replicate]; exact hk), List.getElem?_replicate, if_pos hk]; rfl
      rw [e i (by omega), e (i + 1) (by omega)] at hlt
      omega
    · have := ha x (List.mem_of_mem_take hx)
      omega
    · rw [List.length_drop] at h
      have e : ∀ k, (flat (g :: gs)).getD (g.2 + k) 0 = (flat gs).getD k 0 := fun k => by
        rw [ef, List.getD_eq_getElem?_getD, List.getElem?_append_right (by rw [List.length_replicate]; omega), List.length_replicate, Nat.add_sub_cancel_left, List.getD_eq_getElem?_getD]
      have := hi (g.2 + i) (by omega)
      rw [e i, show g.2 + i + 1 = g.2 + (i + 1) by omega, e (i + 1)] at this
      rw [getD_drop, getD_drop]
      exact this
theorem way_sets {n : Nat} {ts ws : List Int} (hn : 1 ≤ n) (hw : IsWay n ts ws) : IsSets n (ws.drop n) ((grps n ts).map (·.2)) := by
  have hf : flat (grps n ts) = ts.drop n := by unfold grps; exact flat_rl _
  refine sets_of (grps n ts) (ws.drop n) (by rw [hf, List.length_drop, List.length_drop, hw.len]) (fun x hx => hw.all x (List.mem_of_mem_drop hx)) fun i hi => ?_
  rw [List.length_drop, hw.len] at hi
  rw [hf, getD_drop, getD_drop, getD_drop, getD_drop]
  have := hw.asc (n + (i + 1)) (by omega) (by omega)
  rw [show n + (i + 1) - 1 = n + i by omega] at this
  exact this
theorem sets_way {n : Nat} (hn : 1 ≤ n) : ∀ (gs : List (Int × Nat)) (ts ws l : List Int), IsWay n ts ws → n ≤ ts.length → Up gs → (∀ t ∈ ts, ∀ g ∈ gs, t < g.1) → IsSets n l (gs.map (·.2)) → IsWay n (ts ++ flat gs) (ws ++ l)
  | [], ts, ws, l, h, _, _, _, hs => by
    rw [show l = [] from hs, List.append_nil, show flat [] = [] from rfl, List.append_nil]
    exact h
  | g :: gs, ts, ws, l, h, hl, hu, hlow, ⟨a, b, e, ha, hb⟩ => by
    have hu' : Up gs := (List.pairwise_cons.mp hu).2
    have hg : ∀ g' ∈ gs, g.1 < g'.1 := fun g' hg' => (List.pairwise_cons.mp hu).1 g'.1 (List.mem_map_of_mem hg')
    have st := way_group (s := g.2) (v := g.1) (cs := a) hn h hl (fun t ht => hlow t ht g List.mem_cons_self) ha.len (fun c hc => by have := ha.all c hc; omega) ha.asc
    have ih := sets_way hn gs (ts ++ List.replicate g.2 g.1) (ws ++ a) b st (by rw [List.length_append]; omega) hu' (fun t ht g' hg' => by
      rcases List.mem_append.mp ht with ht | ht
      · exact hlow t ht g' (List.mem_cons_of_mem _ hg')
      · rw [(List.mem_replicate.mp ht).2]; exact hg g' hg') hb
    rw [e, show flat (g :: gs) = List.replicate g.2 g.1 ++ flat gs from rfl, ← List.append_assoc, ← List.append_assoc]
    exact ih
def rng (m : Nat) : List Int := (List.range m).map fun k => ((k : Nat) : Int)
/-- the way with an index -/
theorem way_of {n : Nat} {ts l : List Int} (hn : 1 ≤ n) (hp : Poss n ts) (hs : IsSets n l ((grps n ts).map (·.2))) : IsWay n ts (rng (min n ts.length) ++ l) := by
  by_cases hl : n ≤ ts.length
  · have ef : ts = ts.take n ++ flat (grps n ts) := Poss.flat
    have b : IsWay n (ts.take n) (rng (min n ts.length)) := by
      rw [hp.take0]
      exact way_few (by omega)
    have := sets_way hn (grps n ts) (ts.take n) (rng (min n ts.length)) l b (by rw [List.length_take]; omega) (hp.up hn) (fun t ht g hg => ?_) hs
    · rw [← ef] at this
      exact this
    · rw [hp.take0] at ht
      rw [(List.mem_replicate.mp ht).2]
      obtain ⟨k, hk, e⟩ := List.getElem_of_mem (rl_val _ g hg)
      rw [List.getElem_drop] at e
      rw [List.length_drop] at hk
      have := hp.above hn (i := n + k) (by omega) (by omega)
      rw [List.getD_eq_getElem?_getD, List.getElem?_eq_getElem (by omega), e] at this
      exact this
  · have e0 : grps n ts = [] := by
      unfold grps
      rw [List.drop_of_length_le (by omega)]; rfl
    rw [e0] at hs
    rw [show l = [] from hs, List.append_nil, Nat.min_eq_right (by omega)]
    have e1 : ts = List.replicate ts.length 0 := by
      have := hp.take0
      rw [List.take_of_length_le (by omega), Nat.min_eq_right (by omega)] at this
      exact this
    have := way_few (n := n) (m := ts.length) (by omega)
    rw [← e1] at this
    exact this
theorem IsWay.eq {n : Nat} {ts ws : List Int} (h : IsWay n ts ws) : ws = rng (min n ts.length) ++ ws.drop n := by
  conv => lhs; rw [← List.take_append_drop n ws, h.head]
  rfl
/-- the index of a way, the number of ways, the way with an index -/
def szs (n : Nat) (ts : List Int) : List Nat := (grps n ts).map (·.2)
def rankW (n : Nat) (ts ws : List Int) : Nat := (wr n (ws.drop n) (szs n ts)).1
def countW (n : Nat) (ts : List Int) : Nat := cntW n (szs n ts)
def nthW (n : Nat) (ts : List Int) (r : Nat) : List Int := rng (min n ts.length) ++ wn n (szs n ts) r
theorem rank_lt {n : Nat} {ts ws : List Int} (hn : 1 ≤ n) (hw : IsWay n ts ws) : rankW n ts ws < countW n ts := (wr_spec n _ _ (way_sets hn hw)).1
theorem nth_rank {n : Nat} {ts ws : List Int} (hn : 1 ≤ n) (hw : IsWay n ts ws) : nthW n ts (rankW n ts ws) = ws := by
  unfold nthW rankW szs
  rw [(wr_spec n _ _ (way_sets hn hw)).2]
  exact hw.eq.symm
theorem nth_way {n : Nat} {ts : List Int} (hn : 1 ≤ n) (hp : Poss n ts) {r : Nat} (hr : r < countW n ts) : IsWay n ts (nthW n ts r) := way_of hn hp (wn_spec n _ r hr).1
theorem rank_nth {n : Nat} {ts : List Int} (hn : 1 ≤ n) (hl : n ≤ ts.length ∨ szs n ts = []) {r : Nat} (hr : r < countW n ts) : rankW n ts (nthW n ts r) = r := by
  unfold nthW rankW
  rcases hl with hl | hl
  · rw [List.drop_append_of_le_length (by unfold rng; rw [List.length_map, List.length_range]; omega), List.drop_of_length_le (by unfold rng; rw [List.length_map, List.length_range]; omega), List.nil_append]
    exact (wn_spec n _ r hr).2
  · unfold countW at hr
    rw [hl] at hr ⊢
    have : r = 0 := by unfold cntW at hr; simp at hr; omega
    rw [this]; rfl
theorem szs_few {n : Nat} {ts : List Int} (h : ts.length ≤ n) : szs n ts = [] := by
  unfold szs grps
  rw [List.drop_of_length_le h]; rfl
theorem szs_or {n : Nat} {ts : List Int} : n ≤ ts.length ∨ szs n ts = [] := by
  by_cases h : n ≤ ts.length
  · exact .inl h
  · exact .inr (szs_few (by omega))
theorem count_pos {n : Nat} {ts : List Int} (hn : 1 ≤ n) (hp : Poss n ts) : 1 ≤ countW n ts := by
  unfold countW szs
  have := hp.most hn
  generalize grps n ts = gs at this
  have h : ∀ (gs : List (Int × Nat)) (a : Nat), 1 ≤ a → (∀ g ∈ gs, g.2 ≤ n) → 1 ≤ ((gs.map (·.2)).foldl (fun a s => a * bin n s) a) := fun gs => by
    induction gs with
    | nil => intro a ha _; exact ha
    | cons g gs ih =>
      intro a ha hg
      refine ih _ ?_ fun x hx => hg x (List.mem_cons_of_mem _ hx)
      exact Nat.mul_pos ha (bin_pos n g.2 (hg g List.mem_cons_self))
  exact h gs 1 (Nat.le_refl 1) this
end Lc
namespace Lc
theorem isSet_le {m k : Nat} {c : Int} {cs : List Int} (h : IsSet m c k cs) : k ≤ m := by
  have := (rs_spec m cs c k h).1
  refine Nat.le_of_not_lt fun hlt => ?_
  rw [bin_le m k hlt] at this
  omega
theorem sets_at {n : Nat} : ∀ {sz : List Nat} {l : List Int}, IsSets n l sz → ∀ (j s : Nat), sz[j]? = some s → IsSet n 0 s ((l.drop (sz.take j).sum).take s) ∧ (sz.take j).sum + s ≤ l.length
  | [], _, _, _, _, h => by cases h
  | t :: sz, l, ⟨a, b, e, ha, hb⟩, 0, s, h => by
    cases h
    rw [List.take_zero, List.sum_nil, List.drop_zero, e, List.take_append_of_le_length (by rw [ha.len]; exact Nat.le_refl _), List.take_of_length_le (by rw [ha.len]; exact Nat.le_refl _)]
    exact ⟨ha, by rw [List.length_append, ha.len]; omega⟩
  | t :: sz, l, ⟨a, b, e, ha, hb⟩, j + 1, s, h => by
    obtain ⟨q1, q2⟩ := sets_at hb j s (by simpa using h)
    rw [List.take_succ_cons, List.sum_cons, e, ← ha.len, List.drop_append, List.drop_of_length_le (by omega), List.nil_append, Nat.add_sub_cancel_left]
    exact ⟨q1, by rw [List.length_append]; omega⟩
end Lc
namespace Lc
open PySem PySem.Spec PyProof.Rows L2
theorem for_rev {K : PySem.W.Frag} {a : Addr} {xs : List V} {g : TG} {tb : TS} {D : Ends} {σ : L2.St} {H : Hp} (Pv : Nat → L2.St → Hp → Prop) (h0 : Pv 0 σ H) (hl : ∀ i σ H, i ≤ xs.length → Pv i σ H → SqL K H a xs)
    (hs : ∀ i x σ H, i < xs.length → xs[xs.length - 1 - i]? = some x → Pv i σ H → g x σ H fun σ2 H2 => tb { D with nx := Pv (i + 1), ct := Pv (i + 1), bk := D.nx } σ2 H2) (hd : ∀ σ H, Pv xs.length σ H → D.nx σ H) :
    ∃ W : Nat → Nat → L2.St → Hp → Prop, (∃ m, W 0 m σ H) ∧ ∀ i m σ H, W i m σ H →
      ((Itv K a xs.length).stop i H ∧ D.nx σ H) ∨ ((Itv K a xs.length).go i H ∧ ∃ N : L2.St → Hp → Prop, (∀ σ' H', N σ' H' → ∃ m', m' < m ∧ W (i + 1) m' σ' H') ∧ ∀ x H', (Itv K a xs.length).yld i H x H' → g x σ H' fun σ2 H2 => tb { D with nx := N, ct := N, bk := D.nx } σ2 H2) :=
  for_it walk_rev Pv h0 hl (fun i x σ H H' hi p y => by
    obtain ⟨rfl, e⟩ := y
    exact hs i x σ _ hi e p) hd
end Lc

namespace Lc
/-! ### tops put together -/
theorem okAt_map {n : Nat} {ts : List Int} {φ : Int → Int} (h0 : φ 0 = 0) (hm : ∀ x ∈ ts, ∀ y ∈ ts, x < y → φ x < φ y) (hz : ∀ x ∈ ts, 0 ≤ x) (hz2 : ∀ x ∈ ts, x ≠ 0 → φ x ≠ 0) {i : Nat} (hi : i < ts.length) : okAt n (ts.map φ) i = okAt n ts i := by
  have e : ∀ k, k < ts.length → (ts.map φ).getD k 0 = φ (ts.getD k 0) := fun k hk => by
    rw [List.getD_eq_getElem?_getD, List.getD_eq_getElem?_getD, List.getElem?_map, List.getElem?_eq_getElem hk]; rfl
  have m : ∀ k, k < ts.length → ts.getD k 0 ∈ ts := fun k hk => Lc.getD_mem hk
  have mono : ∀ a b, a < ts.length → b < ts.length → (decide (φ (ts.getD a 0) < φ (ts.getD b 0)) = decide (ts.getD a 0 < ts.getD b 0)) := fun a b ha hb => by
    by_cases h : ts.getD a 0 < ts.getD b 0
    · rw [decide_eq_true h, decide_eq_true (hm _ (m a ha) _ (m b hb) h)]
    · rw [decide_eq_false h, decide_eq_false fun h2 => ?_]
      by_cases h3 : ts.getD b 0 < ts.getD a 0
      · have := hm _ (m b hb) _ (m a ha) h3; omega
      · rw [show ts.getD a 0 = ts.getD b 0 by omega] at h2; omega
  have le : ∀ a b, a < ts.length → b < ts.length → (decide (φ (ts.getD a 0) ≤ φ (ts.getD b 0)) = decide (ts.getD a 0 ≤ ts.getD b 0)) := fun a b ha hb => by
    have := mono b a hb ha
    have q : ∀ x y : Int, decide (x ≤ y) = !decide (y < x) := fun x y => by by_cases h : x ≤ y <;> simp [h] <;> omega
    rw [q, q, this]
  unfold okAt
  by_cases hin : i < n
  · rw [if_pos hin, if_pos hin, e i hi]
    by_cases hv : ts.getD i 0 = 0
    · rw [hv, h0]
    · rw [decide_eq_false hv, decide_eq_false (hz2 _ (m i hi) hv)]
  · rw [if_neg hin, if_neg hin, e i hi, e (i - 1) (by omega), e (i - n) (by omega), le (i - 1) i (by omega) hi, mono (i - n) i (by omega) hi]
theorem poss_map {n : Nat} {ts : List Int} {φ : Int → Int} (h0 : φ 0 = 0) (hm : ∀ x ∈ ts, ∀ y ∈ ts, x < y → φ x < φ y) (hz : ∀ x ∈ ts, 0 ≤ x) (hz2 : ∀ x ∈ ts, x ≠ 0 → φ x ≠ 0) (h : Poss n ts) : Poss n (ts.map φ) := fun i hi => by
  rw [List.length_map] at hi
  rw [okAt_map h0 hm hz hz2 hi]
  exact h i hi
/-- sizes do not feel what the values are -/
theorem rl_map {φ : Int → Int} : ∀ l : List Int, (∀ x ∈ l, ∀ y ∈ l, x ≠ y → φ x ≠ φ y) → rl (l.map φ) = (rl l).map fun g => (φ g.1, g.2) := snoc_ind (fun _ => rfl) fun l x ih h => by
  have i := ih fun a ha b hb => h a (List.mem_append_left _ ha) b (List.mem_append_left _ hb)
  rw [List.map_append, show [x].map φ = [φ x] from rfl, rl_snoc, rl_snoc, i]
  unfold rlS
  rw [List.getLast?_map]
  cases hl : (rl l).getLast? with
  | none => rfl
  | some g =>
    show (if φ g.1 = φ x then _ else _) = List.map _ (if g.1 = x then _ else _)
    have hg : g.1 ∈ l := rl_val l g (List.mem_of_getLast? hl)
    by_cases he : g.1 = x
    · rw [if_pos he, if_pos (by rw [he]), List.map_append, List.map_dropLast]; rfl
    · rw [if_neg he, if_neg (h g.1 (List.mem_append_left _ hg) x (List.mem_append_right _ (List.mem_singleton.mpr rfl)) he), List.map_append]; rfl
theorem szs_map {n : Nat} {ts : List Int} {φ : Int → Int} (h : ∀ x ∈ ts, ∀ y ∈ ts, x ≠ y → φ x ≠ φ y) : szs n (ts.map φ) = szs n ts := by
  unfold szs grps
  rw [← List.map_drop, rl_map _ fun x hx y hy => h x (List.mem_of_mem_drop hx) y (List.mem_of_mem_drop hy), List.map_map]
  rfl
theorem rl_append {a : List Int} : ∀ b : List Int, (∀ x y, a.getLast? = some x → b.head? = some y → x ≠ y) → rl (a ++ b) = rl a ++ rl b := snoc_ind (fun _ => by rw [List.append_nil]; exact (List.append_nil _).symm) fun l x ih h => by
  rw [← List.append_assoc, rl_snoc]
  cases hl : l with
  | nil =>
    rw [List.append_nil, List.nil_append]
    subst hl
    have e : rl [x] = [(x, 1)] := rfl
    rw [e]
    unfold rlS
    cases hr : (rl a).getLast? with
    | none =>
      have : rl a = [] := List.getLast?_eq_none_iff.mp hr
      rw [this]; rfl
    | some g =>
      have e2 : ∃ y, a.getLast? = some y ∧ g.1 = y := by
        cases hy : a.getLast? with
        | none =>
          have : a = [] := List.getLast?_eq_none_iff.mp hy
          rw [this] at hr; cases hr
        | some y =>
          have ea := drop_last_eq hy
          obtain ⟨s, hs⟩ := rl_last a.dropLast y
          rw [← ea, hr] at hs
          exact ⟨y, rfl, by rw [Option.some.inj hs]⟩
      obtain ⟨y, hy, hgy⟩ := e2
      show (if g.1 = x then _ else _) = _
      rw [if_neg (by rw [hgy]; exact h y x hy rfl)]
  | cons z zs =>
    rw [← hl]
    have hne : l ≠ [] := by rw [hl]; simp
    rw [ih fun u v hu hv => h u v hu (by rw [List.head?_append, hv]; rfl), rl_snoc l x]
    unfold rlS
    have hrl : rl l ≠ [] := fun e => hne (by have := flat_rl l; rw [e] at this; exact this.symm)
    have e3 : (rl a ++ rl l).getLast? = (rl l).getLast? := by
      rw [List.getLast?_append]
      cases h : (rl l).getLast? with
      | none => exact absurd (List.getLast?_eq_none_iff.mp h) hrl
      | some g => rfl
    rw [e3]
    cases hg : (rl l).getLast? with
    | none => exact absurd (List.getLast?_eq_none_iff.mp hg) hrl
    | some g =>
      show (if g.1 = x then (rl a ++ rl l).dropLast ++ [(g.1, g.2 + 1)] else rl a ++ rl l ++ [(x, 1)]) = rl a ++ (if g.1 = x then (rl l).dropLast ++ [(g.1, g.2 + 1)] else rl l ++ [(x, 1)])
      by_cases he : g.1 = x
      · rw [if_pos he, if_pos he, List.dropLast_append_of_ne_nil hrl, List.append_assoc]
      · rw [if_neg he, if_neg he, List.append_assoc]
theorem cntW_app (n : Nat) (a : List Nat) : ∀ b : List Nat, cntW n (a ++ b) = cntW n a * cntW n b := snocN_ind (by rw [List.append_nil]; show _ = _ * 1; rw [Nat.mul_one]) fun b s ih => by
  rw [← List.append_assoc, cntW_snoc, cntW_snoc, ih, Nat.mul_assoc]
theorem wr_append (n : Nat) {l0 : List Int} {s0 : List Nat} (h : l0.length = s0.sum) (l1 : List Int) : ∀ s1 : List Nat, (wr n (l0 ++ l1) (s0 ++ s1)).1 = (wr n l0 s0).1 * cntW n s1 + (wr n l1 s1).1 := snocN_ind (by
    rw [List.append_nil, wr_app n l0 l1 s0 (by omega)]
    show _ = _ * 1 + 0
    omega) fun s1 s ih => by
  rw [← List.append_assoc, wr_snoc, cntW_snoc, wr_snoc]
  show (wr n (l0 ++ l1) (s0 ++ s1)).1 * bin n s + rs n 0 (((l0 ++ l1).drop (wr n (l0 ++ l1) (s0 ++ s1)).2).take s) = (wr n l0 s0).1 * (cntW n s1 * bin n s) + ((wr n l1 s1).1 * bin n s + rs n 0 ((l1.drop (wr n l1 s1).2).take s))
  rw [ih, wr_at, wr_at, List.sum_append, ← h, List.drop_append, List.drop_of_length_le (by omega), List.nil_append, Nat.add_sub_cancel_left, Nat.add_mul, Nat.mul_assoc]
  omega
theorem isSets_app {n : Nat} : ∀ {s0 : List Nat} {l0 l1 : List Int} {s1 : List Nat}, IsSets n l0 s0 → IsSets n l1 s1 → IsSets n (l0 ++ l1) (s0 ++ s1)
  | [], l0, l1, s1, h0, h1 => by rw [show l0 = [] from h0]; exact h1
  | s :: s0, l0, l1, s1, ⟨a, b, e, ha, hb⟩, h1 => ⟨a, b ++ l1, by rw [e, List.append_assoc], ha, isSets_app hb h1⟩
/-- later tops behind first ones -/
theorem poss_later {n : Nat} {ts ls : List Int} (hn : 1 ≤ n) (h : Poss n ts) (hl : n ≤ ts.length) (hlow : ∀ t ∈ ts, ∀ x ∈ ls, t < x) (h2 : Poss n (List.replicate n 0 ++ ls)) : Poss n (ts ++ ls) := fun i hi => by
  rw [List.length_append] at hi
  by_cases hc : i < ts.length
  · have q := h i hc
    unfold okAt at q ⊢
    rw [getD_append_left hc, getD_append_left (show i - 1 < ts.length by omega), getD_append_left (show i - n < ts.length by omega)]
    exact q
  · have er : ∀ k, ts.length ≤ k → (ts ++ ls).getD k 0 = ls.getD (k - ts.length) 0 := fun k hk => by
      rw [List.getD_eq_getElem?_getD, List.getD_eq_getElem?_getD, List.getElem?_append_right hk]
    have ez : ∀ k, n ≤ k → (List.replicate n 0 ++ ls).getD k 0 = ls.getD (k - n) 0 := fun k hk => by
      rw [List.getD_eq_getElem?_getD, List.getD_eq_getElem?_getD, List.getElem?_append_right (by rw [List.length_replicate]; exact hk), List.length_replicate]
    have hx : ls.getD (i - ts.length) 0 ∈ ls := Lc.getD_mem (by omega)
    unfold okAt
    rw [if_neg (by omega), er i (by omega)]
    have q := h2 (n + (i - ts.length)) (by rw [List.length_append, List.length_replicate]; omega)
    unfold okAt at q
    rw [if_neg (by omega), ez (n + (i - ts.length)) (by omega), show n + (i - ts.length) - n = i - ts.length by omega] at q
    obtain ⟨q1, q2⟩ := Bool.and_eq_true_iff.mp q
    have q1 := of_decide_eq_true q1
    have q2 := of_decide_eq_true q2
    refine Bool.and_eq_true_iff.mpr ⟨decide_eq_true ?_, decide_eq_true ?_⟩
    · by_cases hp : i - 1 < ts.length
      · rw [getD_append_left hp]
        have := hlow _ (Lc.getD_mem hp) _ hx
        omega
      · rw [er _ (by omega)]
        rw [ez (n + (i - ts.length) - 1) (by omega), show n + (i - ts.length) - 1 - n = i - 1 - ts.length by omega] at q1
        exact q1
    · by_cases hp : i - n < ts.length
      · rw [getD_append_left hp]
        exact hlow _ (Lc.getD_mem hp) _ hx
      · rw [er _ (by omega)]
        rw [ez (i - ts.length) (by omega), show i - ts.length - n = i - n - ts.length by omega] at q2
        exact q2
theorem grps_later {n : Nat} {ts ls : List Int} (hl : n ≤ ts.length) (hlow : ∀ t ∈ ts, ∀ x ∈ ls, t < x) : szs n (ts ++ ls) = szs n ts ++ (rl ls).map (·.2) := by
  unfold szs grps
  rw [List.drop_append_of_le_length hl, rl_append _ fun x y hx hy => ?_, List.map_append]
  have h1 : x ∈ ts := List.mem_of_mem_drop (List.mem_of_getLast? hx)
  have h2 : y ∈ ls := List.mem_of_head? hy
  have := hlow x h1 y h2
  omega
theorem szs_zeros {n : Nat} {ls : List Int} : szs n (List.replicate n 0 ++ ls) = (rl ls).map (·.2) := by
  unfold szs grps
  rw [List.drop_append_of_le_length (by rw [List.length_replicate]; exact Nat.le_refl _), List.drop_of_length_le (by rw [List.length_replicate]; exact Nat.le_refl _), List.nil_append]
/-- what is above 0 in possible tops -/
theorem poss_pos {n : Nat} {ts : List Int} (hn : 1 ≤ n) (h : Poss n ts) : ts.filter (fun x => decide (0 < x)) = ts.drop n := by
  conv => lhs; rw [← List.take_append_drop n ts]
  rw [List.filter_append, h.take0]
  have e1 : (List.replicate (min n ts.length) (0 : Int)).filter (fun x => decide (0 < x)) = [] := List.filter_eq_nil_iff.mpr fun x hx => by rw [(List.mem_replicate.mp hx).2]; decide
  have e2 : (ts.drop n).filter (fun x => decide (0 < x)) = ts.drop n := List.filter_eq_self.mpr fun x hx => by
    obtain ⟨k, hk, e⟩ := List.getElem_of_mem hx
    rw [List.getElem_drop] at e
    rw [List.length_drop] at hk
    have := h.above hn (i := n + k) (by omega) (by omega)
    rw [List.getD_eq_getElem?_getD, List.getElem?_eq_getElem (by omega), e] at this
    exact decide_eq_true this
  rw [e1, e2, List.nil_append]
/-- zeros ahead of moved tops -/
theorem poss_moved {n : Nat} {ts : List Int} {d : Int} (hn : 1 ≤ n) (hd : 0 ≤ d) (h : Poss n ts) (hz : ∀ x ∈ ts, 0 ≤ x) : Poss n (List.replicate n 0 ++ (ts.drop n).map (· + d)) := by
  by_cases hl : n ≤ ts.length
  · have e : List.replicate n 0 ++ (ts.drop n).map (· + d) = ts.map fun x => if 0 < x then x + d else 0 := by
      conv => rhs; rw [← List.take_append_drop n ts]
      rw [List.map_append, h.take0, Nat.min_eq_left hl, List.map_replicate, if_neg (by decide)]
      refine congrArg (List.replicate n (0 : Int) ++ ·) (List.map_congr_left fun x hx => ?_)
      obtain ⟨k, hk, e⟩ := List.getElem_of_mem hx
      rw [List.getElem_drop] at e
      rw [List.length_drop] at hk
      have := h.above hn (i := n + k) (by omega) (by omega)
      rw [List.getD_eq_getElem?_getD, List.getElem?_eq_getElem (by omega), e] at this
      rw [if_pos (show 0 < x from this)]
    rw [e]
    refine poss_map (by rw [if_neg (by decide)]) (fun x hx y hy hxy => ?_) hz (fun x hx hne => ?_) h
    · have := hz x hx
      have := hz y hy
      split <;> split <;> omega
    · have := hz x hx
      rw [if_pos (by omega)]; omega
  · rw [List.drop_of_length_le (by omega), List.map_nil, List.append_nil]
    exact poss_zeros (Nat.le_refl _)
end Lc

namespace Lc
/-! ### ways and layouts -/
/-- places as the play has them -/
def plc (ws ts : List Int) : List (Nat × Int) := (ws.zip ts).map fun p => (p.1.toNat, p.2)
theorem plc_len {ws ts : List Int} (h : ws.length = ts.length) : (plc ws ts).length = ts.length := by
  unfold plc
  rw [List.length_map, List.length_zip]; omega
theorem plc_get {ws ts : List Int} (h : ws.length = ts.length) {i : Nat} (hi : i < ts.length) : (plc ws ts)[i]? = some ((ws.getD i 0).toNat, ts.getD i 0) := by
  unfold plc
  have hz : i < (ws.zip ts).length := by rw [List.length_zip]; omega
  rw [List.getElem?_map, List.getElem?_eq_getElem hz, List.getElem_zip, List.getD_eq_getElem?_getD, List.getD_eq_getElem?_getD, List.getElem?_eq_getElem hi, List.getElem?_eq_getElem (by omega)]
  rfl
/-- what the next top in a column is -/
theorem nx_cases (B c : Int) : ∀ ps : List (Int × Int), nx B c ps = B ∨ ∃ k : Nat, ps[k]? = some (c, nx B c ps)
  | [] => .inl rfl
  | p :: r => by
    unfold nx
    by_cases h : p.1 = c
    · rw [if_pos h]
      exact .inr ⟨0, by rw [← h]; rfl⟩
    · rw [if_neg h]
      rcases nx_cases B c r with e | ⟨k, e⟩
      · exact .inl e
      · exact .inr ⟨k + 1, by rw [List.getElem?_cons_succ]; exact e⟩
theorem zip_at {ws ts : List Int} (h : ws.length = ts.length) {i k : Nat} {c v : Int} (e : ((ws.zip ts).drop i)[k]? = some (c, v)) : i + k < ts.length ∧ ws.getD (i + k) 0 = c ∧ ts.getD (i + k) 0 = v := by
  rw [List.getElem?_drop] at e
  have hl := (List.getElem?_eq_some_iff.mp e).1
  rw [List.length_zip] at hl
  rw [List.getElem?_eq_getElem (by rw [List.length_zip]; exact hl), List.getElem_zip] at e
  have e := Option.some.inj e
  have e1 := congrArg Prod.fst e
  have e2 := congrArg Prod.snd e
  refine ⟨by omega, ?_, ?_⟩
  · rw [List.getD_eq_getElem?_getD, List.getElem?_eq_getElem (by omega)]; exact e1
  · rw [List.getD_eq_getElem?_getD, List.getElem?_eq_getElem (by omega)]; exact e2
/-- the columns after i cards -/
def colI (B : Int) (n : Nat) (ts ws : List Int) (i : Nat) : List Int := (List.range n).map fun c => if c < i then nx B ((c : Nat) : Int) ((ws.zip ts).drop i) else 0
theorem colI_len (B : Int) (n : Nat) (ts ws : List Int) (i : Nat) : (colI B n ts ws i).length = n := by unfold colI; rw [List.length_map, List.length_range]
theorem colI_get {B : Int} {n : Nat} {ts ws : List Int} {i c : Nat} (h : c < n) : (colI B n ts ws i)[c]? = some (if c < i then nx B ((c : Nat) : Int) ((ws.zip ts).drop i) else 0) := by
  unfold colI
  rw [List.getElem?_map, List.getElem?_range h]; rfl
theorem way_head {n : Nat} {ts ws : List Int} (hw : IsWay n ts ws) {i : Nat} (hi : i < n) (hl : i < ts.length) : ws.getD i 0 = ((i : Nat) : Int) := by
  have e := congrArg (fun l : List Int => l.getD i 0) hw.head
  have e : (ws.take n).getD i 0 = ((List.range (min n ts.length)).map fun k => ((k : Nat) : Int)).getD i 0 := e
  rw [getD_take hi, List.getD_eq_getElem?_getD (l := List.map _ _), List.getElem?_map, List.getElem?_range (by omega)] at e
  exact e
/-- within equal tops the columns rise -/
theorem way_rise {n : Nat} {ts ws : List Int} (hn : 1 ≤ n) (hp : Poss n ts) (hw : IsWay n ts ws) {i : Nat} (hi : n ≤ i) : ∀ k, i + (k + 1) < ts.length → ts.getD (i + (k + 1)) 0 = ts.getD i 0 → ws.getD i 0 < ws.getD (i + (k + 1)) 0
  | 0, hl, he => by
    have := hw.asc (i + 1) (by omega) hl
    rw [show i + 1 - 1 = i by omega] at this
    have he' : ts.getD (i + 1) 0 = ts.getD i 0 := he
    exact this.resolve_left (by omega)
  | k + 1, hl, he => by
    have m1 := ok_le (n := n) (ts := ts) (m := ts.length - 1) (a := i) (b := i + (k + 1)) hn (fun j hj => hp j (by omega)) (by omega) (by omega)
    have m2 := ok_le (n := n) (ts := ts) (m := ts.length - 1) (a := i + (k + 1)) (b := i + (k + 1 + 1)) hn (fun j hj => hp j (by omega)) (by omega) (by omega)
    have ih := way_rise hn hp hw hi k (by omega) (by omega)
    have := hw.asc (i + (k + 1 + 1)) (by omega) hl
    rw [show i + (k + 1 + 1) - 1 = i + (k + 1) by omega] at this
    have := this.resolve_left (by omega)
    omega
theorem col_low {B : Int} {n : Nat} {ts ws : List Int} (hn : 1 ≤ n) (hp : Poss n ts) (hw : IsWay n ts ws) (hB : ∀ t ∈ ts, t < B) (hB0 : 0 < B) {i : Nat} (hi : i < ts.length) :
    (ws.getD i 0).toNat = low false (colI B n ts ws i) ∧ ts.getD i 0 = mn (colI B n ts ws i) := by
  have hlw := hw.len
  have hwi := hw.all _ (Lc.getD_mem (show i < ws.length by omega))
  obtain ⟨c, ec⟩ := Int.eq_ofNat_of_zero_le hwi.1
  have hc : c < n := by omega
  have hti := hB _ (Lc.getD_mem hi)
  -- its height, the others'
  have h1 : (colI B n ts ws i)[c]? = some (ts.getD i 0) := by
    rw [colI_get hc]
    by_cases hin : i < n
    · have := way_head hw hin hi
      rw [if_neg (by omega), hp.zero hin hi]
    · rw [if_pos (by omega), zip_drop hi hlw, ec]
      show some (if ((c : Nat) : Int) = ((c : Nat) : Int) then _ else _) = _
      rw [if_pos rfl]
  have h2 : ∀ j v, (colI B n ts ws i)[j]? = some v → ts.getD i 0 ≤ v ∧ (v = ts.getD i 0 → c ≤ j) := fun j v hv => by
    have hj : j < n := by have := (List.getElem?_eq_some_iff.mp hv).1; rwa [colI_len] at this
    rw [colI_get hj] at hv
    have hv := Option.some.inj hv
    by_cases hin : i < n
    · have hci := way_head hw hin hi
      have hz := hp.zero hin hi
      rw [hz]
      by_cases hji : j < i
      · rw [if_pos hji] at hv
        have : 0 < v := by
          rcases nx_cases B ((j : Nat) : Int) ((ws.zip ts).drop i) with e | ⟨k, e⟩
          · omega
          · obtain ⟨a1, a2, a3⟩ := zip_at hlw e
            by_cases hkn : i + k < n
            · have := way_head hw hkn a1
              omega
            · have := hp.above hn (i := i + k) (by omega) a1
              omega
        omega
      · rw [if_neg hji] at hv
        omega
    · rw [if_pos (by omega)] at hv
      rw [zip_drop hi hlw] at hv
      have hv : (if ws.getD i 0 = ((j : Nat) : Int) then ts.getD i 0 else nx B ((j : Nat) : Int) ((ws.zip ts).drop (i + 1))) = v := hv
      by_cases hij : ws.getD i 0 = ((j : Nat) : Int)
      · rw [if_pos hij] at hv
        omega
      · rw [if_neg hij] at hv
        rcases nx_cases B ((j : Nat) : Int) ((ws.zip ts).drop (i + 1)) with e | ⟨k, e⟩
        · omega
        · obtain ⟨a1, a2, a3⟩ := zip_at hlw e
          rw [hv] at a3
          have m1 := ok_le (n := n) (ts := ts) (m := ts.length - 1) (a := i) (b := i + 1 + k) hn (fun j hj => hp j (by omega)) (by omega) (by omega)
          refine ⟨by omega, fun hve => ?_⟩
          have r := way_rise hn hp hw (i := i) (by omega) k (by omega) (by rw [show i + (k + 1) = i + 1 + k by omega]; omega)
          rw [show i + (k + 1) = i + 1 + k by omega] at r
          omega
  have em : mn (colI B n ts ws i) = ts.getD i 0 := mn_eq (List.mem_of_getElem? h1) fun y hy => by
    obtain ⟨j, hj, e⟩ := List.getElem_of_mem hy
    exact (h2 j y (by rw [List.getElem?_eq_getElem hj, e])).1
  refine ⟨?_, em.symm⟩
  rw [ec]
  refine low_char (r := false) (by rw [em]; exact h1) fun j hj => ?_
  rw [em] at hj
  exact (h2 j _ hj).2 rfl
theorem colI_zero (B : Int) (n : Nat) (ts ws : List Int) : colI B n ts ws 0 = List.replicate n 0 := by
  refine List.ext_getElem? fun c => ?_
  by_cases h : c < n
  · rw [colI_get h, if_neg (by omega), List.getElem?_replicate, if_pos h]
  · rw [List.getElem?_eq_none (by rw [colI_len]; omega), List.getElem?_eq_none (by rw [List.length_replicate]; omega)]
theorem colI_step {B : Int} {n : Nat} {ts ws : List Int} (hw : IsWay n ts ws) {i : Nat} (hi : i < ts.length) :
    (colI B n ts ws i).set (ws.getD i 0).toNat (nx B (ws.getD i 0) ((ws.zip ts).drop (i + 1))) = colI B n ts ws (i + 1) := by
  have hlw := hw.len
  have hwi := hw.all _ (Lc.getD_mem (show i < ws.length by omega))
  obtain ⟨c, ec⟩ := Int.eq_ofNat_of_zero_le hwi.1
  have hc : c < n := by omega
  rw [ec]
  show (colI B n ts ws i).set c _ = _
  refine List.ext_getElem? fun j => ?_
  rw [List.getElem?_set]
  by_cases hj : j < n
  · by_cases e : c = j
    · subst e
      rw [if_pos rfl, if_pos (by rw [colI_len]; exact hj), colI_get hj]
      by_cases hin : i < n
      · have := way_head hw hin hi
        rw [if_pos (by omega)]
      · rw [if_pos (by omega)]
    · rw [if_neg e, colI_get hj, colI_get hj]
      have en : nx B ((j : Nat) : Int) ((ws.zip ts).drop i) = nx B ((j : Nat) : Int) ((ws.zip ts).drop (i + 1)) := by
        rw [zip_drop hi hlw]
        show (if ws.getD i 0 = ((j : Nat) : Int) then _ else _) = _
        rw [if_neg (by omega)]
      rw [en]
      by_cases hin : i < n
      · have := way_head hw hin hi
        by_cases h1 : j < i
        · rw [if_pos h1, if_pos (by omega)]
        · rw [if_neg h1, if_neg (by omega)]
      · rw [if_pos (by omega), if_pos (by omega)]
  · rw [if_neg (by omega), List.getElem?_eq_none (by rw [colI_len]; omega), List.getElem?_eq_none (by rw [colI_len]; omega)]
/-- the cards of a way, laid again -/
theorem lay_cow {B : Int} {n : Nat} {ts ws : List Int} (hn : 1 ≤ n) (hp : Poss n ts) (hw : IsWay n ts ws) (hB : ∀ t ∈ ts, t < B) (hB0 : 0 < B) :
    ∀ i, i ≤ ts.length → play false (List.replicate n 0) ((cow B ts ws).take i) = ((plc ws ts).take i, colI B n ts ws i)
  | 0, _ => by rw [List.take_zero, List.take_zero, colI_zero]; rfl
  | i + 1, h => by
    have hlw := hw.len
    have ih := lay_cow hn hp hw hB hB0 i (by omega)
    have hi : i < ts.length := by omega
    have e : (cow B ts ws)[i]? = some (hwy B ts ws i) := by
      unfold cow
      rw [List.getElem?_map, List.getElem?_range hi]; rfl
    rw [play_take e, ih]
    obtain ⟨c1, c2⟩ := col_low hn hp hw hB hB0 hi
    unfold put
    refine Prod.ext ?_ ?_
    · show (plc ws ts).take i ++ [(low false (colI B n ts ws i), mn (colI B n ts ws i))] = (plc ws ts).take (i + 1)
      rw [← c1, ← c2, List.take_add_one, plc_get hlw hi]; rfl
    · show (colI B n ts ws i).set (low false (colI B n ts ws i)) (mn (colI B n ts ws i) + hwy B ts ws i) = colI B n ts ws (i + 1)
      rw [← c1, ← c2, ← colI_step hw hi]
      unfold hwy
      rw [show ts.getD i 0 + (nx B (ws.getD i 0) ((ws.zip ts).drop (i + 1)) - ts.getD i 0) = nx B (ws.getD i 0) ((ws.zip ts).drop (i + 1)) by omega]
theorem lay_all {B : Int} {n : Nat} {ts ws : List Int} (hn : 1 ≤ n) (hp : Poss n ts) (hw : IsWay n ts ws) (hB : ∀ t ∈ ts, t < B) (hB0 : 0 < B) :
    play false (List.replicate n 0) (cow B ts ws) = (plc ws ts, (List.range n).map fun c => if c < ts.length then B else 0) := by
  have h := lay_cow hn hp hw hB hB0 ts.length (Nat.le_refl _)
  rw [List.take_of_length_le (by rw [cow_len]; exact Nat.le_refl _), List.take_of_length_le (by rw [plc_len hw.len]; exact Nat.le_refl _)] at h
  rw [h]
  unfold colI
  rw [List.drop_of_length_le (by rw [List.length_zip]; omega)]
  rfl
/-- the cards are cards -/
theorem cow_pos {B : Int} {n : Nat} {ts ws : List Int} (hn : 1 ≤ n) (hp : Poss n ts) (hw : IsWay n ts ws) (hB : ∀ t ∈ ts, t < B) : ∀ h ∈ cow B ts ws, 1 ≤ h := fun h hh => by
  obtain ⟨i, hi, rfl⟩ := List.mem_map.mp hh
  have hi := List.mem_range.mp hi
  have hlw := hw.len
  unfold hwy
  rcases nx_cases B (ws.getD i 0) ((ws.zip ts).drop (i + 1)) with e | ⟨k, e⟩
  · rw [e]
    have := hB _ (Lc.getD_mem hi)
    omega
  · obtain ⟨a1, a2, a3⟩ := zip_at hlw e
    have m1 := ok_le (n := n) (ts := ts) (m := ts.length - 1) (a := i) (b := i + 1 + k) hn (fun j hj => hp j (by omega)) (by omega) (by omega)
    refine Int.le_sub_left_of_add_le ?_
    have : ts.getD (i + 1 + k) 0 ≠ ts.getD i 0 := fun he => by
      by_cases hin : i < n
      · have h1 := way_head hw hin hi
        by_cases hkn : i + 1 + k < n
        · have := way_head hw hkn a1
          omega
        · have := hp.above hn (i := i + 1 + k) (by omega) a1
          have := hp.zero hin hi
          omega
      · have r := way_rise hn hp hw (i := i) (by omega) k (by omega) (by rw [show i + (k + 1) = i + 1 + k by omega]; exact he)
        rw [show i + (k + 1) = i + 1 + k by omega] at r
        omega
    omega
end Lc

namespace Lc
/-! ### mirrored ways -/
def mirG (n : Nat) (l : List Int) : List Int := (l.map fun c => (n : Int) - 1 - c).reverse
def mirL (n : Nat) : List Nat → List Int → List Int
  | [], _ => []
  | s :: ss, l => mirG n (l.take s) ++ mirL n ss (l.drop s)
theorem mirG_len (n : Nat) (l : List Int) : (mirG n l).length = l.length := by unfold mirG; rw [List.length_reverse, List.length_map]
theorem mirG_set {n s : Nat} {l : List Int} (h : IsSet n 0 s l) : IsSet n 0 s (mirG n l) := by
  refine ⟨by rw [mirG_len, h.len], ?_, fun x hx => ?_⟩
  · unfold mirG Asc
    rw [List.pairwise_reverse, List.pairwise_map]
    exact h.asc.imp fun hab => by omega
  · unfold mirG at hx
    obtain ⟨y, hy, rfl⟩ := List.mem_map.mp (List.mem_reverse.mp hx)
    have := h.all y hy
    omega
theorem mirG_inv (n : Nat) (l : List Int) : mirG n (mirG n l) = l := by
  unfold mirG
  rw [List.map_reverse, List.reverse_reverse, List.map_map]
  conv => rhs; rw [← List.map_id l]
  refine List.map_congr_left fun x _ => ?_
  show (n : Int) - 1 - ((n : Int) - 1 - x) = x
  omega
theorem mirL_sets {n : Nat} : ∀ {szs : List Nat} {l : List Int}, IsSets n l szs → IsSets n (mirL n szs l) szs
  | [], l, h => rfl
  | s :: szs, l, ⟨a, b, e, ha, hb⟩ => by
    have e1 : l.take s = a := by rw [e, ← ha.len, List.take_left']; rfl
    have e2 : l.drop s = b := by rw [e, ← ha.len, List.drop_left']; rfl
    refine ⟨mirG n a, mirL n szs b, ?_, mirG_set ha, mirL_sets hb⟩
    show mirG n (l.take s) ++ mirL n szs (l.drop s) = _
    rw [e1, e2]
theorem mirL_inv {n : Nat} : ∀ {szs : List Nat} {l : List Int}, IsSets n l szs → mirL n szs (mirL n szs l) = l
  | [], l, h => by rw [show l = [] from h]; rfl
  | s :: szs, l, ⟨a, b, e, ha, hb⟩ => by
    have e1 : l.take s = a := by rw [e, ← ha.len, List.take_left']; rfl
    have e2 : l.drop s = b := by rw [e, ← ha.len, List.drop_left']; rfl
    have e3 : mirL n (s :: szs) l = mirG n a ++ mirL n szs b := by
      show mirG n (l.take s) ++ mirL n szs (l.drop s) = _
      rw [e1, e2]
    rw [e3]
    show mirG n ((mirG n a ++ mirL n szs b).take s) ++ mirL n szs ((mirG n a ++ mirL n szs b).drop s) = l
    have ls : (mirG n a).length = s := by rw [mirG_len, ha.len]
    rw [← ls, List.take_left' rfl, List.drop_left' rfl, mirG_inv, mirL_inv hb, e]
theorem mirL_snoc {n : Nat} : ∀ {szs : List Nat} {l c : List Int} {s : Nat}, IsSets n l szs → c.length = s → mirL n (szs ++ [s]) (l ++ c) = mirL n szs l ++ mirG n c
  | [], l, c, s, h, hc => by
    rw [show l = [] from h]
    show mirG n (c.take s) ++ [] = [] ++ mirG n c
    rw [List.append_nil, ← hc, List.take_length]; rfl
  | t :: szs, l, c, s, ⟨a, b, e, ha, hb⟩, hc => by
    have e1 : (l ++ c).take t = a := by rw [e, List.append_assoc, ← ha.len, List.take_left']; rfl
    have e2 : (l ++ c).drop t = b ++ c := by rw [e, List.append_assoc, ← ha.len, List.drop_left']; rfl
    have e3 : l.take t = a := by rw [e, ← ha.len, List.take_left']; rfl
    have e4 : l.drop t = b := by rw [e, ← ha.len, List.drop_left']; rfl
    show mirG n ((l ++ c).take t) ++ mirL n (szs ++ [s]) ((l ++ c).drop t) = mirG n (l.take t) ++ mirL n szs (l.drop t) ++ mirG n c
    rw [e1, e2, e3, e4, mirL_snoc hb hc, List.append_assoc]
theorem rs_one : ∀ (m : Nat) (c x : Int), c ≤ x → x < c + m → (rs m c [x] : Int) = x - c
  | 0, c, x, h1, h2 => by omega
  | m + 1, c, x, h1, h2 => by
    rw [rs_cons]
    by_cases e : c = x
    · rw [if_pos e, rs_nil]; omega
    · rw [if_neg e]
      have := rs_one m (c + 1) x (by omega) (by omega)
      show ((bin m 0 + rs m (c + 1) [x] : Nat) : Int) = _
      rw [bin_zero]
      omega
/-- the numbers of mirrored ways count from the end -/
theorem wr_mir (n : Nat) : ∀ (szs : List Nat), (∀ s ∈ szs, s = 1 ∨ s = n) → ∀ l, IsSets n l szs → (wr n l szs).1 + (wr n (mirL n szs l) szs).1 + 1 = cntW n szs := snocN_ind (fun _ l h => by rfl) fun szs s ih hs l h => by
  obtain ⟨a, c, e, ha, hc⟩ := isSets_unsnoc h
  have h1 := ih (fun t ht => hs t (List.mem_append_left _ ht)) a ha
  have hl := isSets_len ha
  have hm := mirL_sets ha
  have hml := isSets_len hm
  have hmc := mirG_set hc
  subst e
  rw [mirL_snoc ha hc.len]
  have ew : ∀ a c : List Int, IsSets n a szs → IsSet n 0 s c → (wr n (a ++ c) (szs ++ [s])).1 = (wr n a szs).1 * bin n s + rs n 0 c := fun a c ha hc => by
    have hl := isSets_len ha
    rw [wr_snoc, wr_at, wr_app n _ _ szs (by omega), List.drop_append_of_le_length (by omega), List.drop_of_length_le (by omega), List.nil_append, List.take_of_length_le (by rw [hc.len]; exact Nat.le_refl _)]
  rw [ew a c ha hc, ew _ _ hm hmc, cntW_snoc, ← h1]
  have hr : rs n 0 c + rs n 0 (mirG n c) + 1 = bin n s := by
    rcases hs s (List.mem_append_right _ List.mem_cons_self) with rfl | rfl
    · obtain ⟨x, rfl⟩ : ∃ x, c = [x] := by
        have := hc.len
        match c, this with
        | [x], _ => exact ⟨x, rfl⟩
      have hx := hc.all x List.mem_cons_self
      have r1 := rs_one n 0 x (by omega) (by omega)
      have r2 := rs_one n 0 ((n : Int) - 1 - x) (by omega) (by omega)
      rw [bin_one]
      show rs n 0 [x] + rs n 0 [(n : Int) - 1 - x] + 1 = n
      omega
    · have r1 := (rs_spec s c 0 s hc).1
      have r2 := (rs_spec s _ 0 s hmc).1
      rw [bin_self] at r1 r2 ⊢
      omega
  rw [← hr, Nat.add_mul, Nat.add_mul, Nat.one_mul]
  omega
def mirW (n : Nat) (ts ws : List Int) : List Int := rng (min n ts.length) ++ mirL n (szs n ts) (ws.drop n)
theorem rng_len (m : Nat) : (rng m).length = m := by unfold rng; rw [List.length_map, List.length_range]
theorem mirW_drop {n : Nat} {ts ws : List Int} (hn : 1 ≤ n) (hw : IsWay n ts ws) : (mirW n ts ws).drop n = mirL n (szs n ts) (ws.drop n) := by
  unfold mirW
  by_cases h : n ≤ ts.length
  · rw [List.drop_append_of_le_length (by rw [rng_len]; omega), List.drop_of_length_le (by rw [rng_len]; omega), List.nil_append]
  · rw [szs_few (by omega)]
    show (rng (min n ts.length) ++ []).drop n = []
    rw [List.append_nil, List.drop_of_length_le (by rw [rng_len]; omega)]
theorem mirW_way {n : Nat} {ts ws : List Int} (hn : 1 ≤ n) (hp : Poss n ts) (hw : IsWay n ts ws) : IsWay n ts (mirW n ts ws) := way_of hn hp (mirL_sets (way_sets hn hw))
theorem mirW_inv {n : Nat} {ts ws : List Int} (hn : 1 ≤ n) (hp : Poss n ts) (hw : IsWay n ts ws) : mirW n ts (mirW n ts ws) = ws := by
  conv => rhs; rw [hw.eq]
  show rng _ ++ mirL n (szs n ts) ((mirW n ts ws).drop n) = _
  rw [mirW_drop hn hw, show mirL n (szs n ts) (mirL n (szs n ts) (ws.drop n)) = ws.drop n from mirL_inv (way_sets hn hw)]
theorem mirW_rank {n : Nat} {ts ws : List Int} (hn : 1 ≤ n) (hp : Poss n ts) (hw : IsWay n ts ws) (h : ∀ s ∈ szs n ts, s = 1 ∨ s = n) : rankW n ts ws + rankW n ts (mirW n ts ws) + 1 = countW n ts := by
  unfold rankW countW
  rw [mirW_drop hn hw]
  exact wr_mir n _ h _ (way_sets hn hw)
/-! ### the right one of equal columns -/
def mirQ (n : Nat) (ps : List (Nat × Int)) : List (Nat × Int) := ps.map fun p => (n - 1 - p.1, p.2)
def mirT (n : Nat) (s : List (Nat × Int) × List Int) : List (Nat × Int) × List Int := (mirQ n s.1, s.2.reverse)
theorem mn_revQ {l : List Int} (h : l ≠ []) : mn l.reverse = mn l := mn_eq (List.mem_reverse.mpr (mn_spec h).1) fun y hy => (mn_spec h).2 y (List.mem_reverse.mp hy)
theorem low_revQ {l : List Int} (h : l ≠ []) : low true l.reverse = l.length - 1 - low false l := by
  unfold low
  rw [if_pos rfl, if_neg (by simp), mn_revQ h, List.reverse_reverse, List.length_reverse]
theorem set_revQ {l : List Int} {i : Nat} {v : Int} (h : i < l.length) : l.reverse.set (l.length - 1 - i) v = (l.set i v).reverse := by
  refine List.ext_getElem (by simp) fun j h1 h2 => ?_
  simp only [List.length_set, List.length_reverse] at h1 h2
  rw [List.getElem_set, List.getElem_reverse, List.getElem_reverse, List.getElem_set]
  simp only [List.length_set]
  by_cases e : i = l.length - 1 - j
  · rw [if_pos (by omega), if_pos e]
  · rw [if_neg (by omega), if_neg e]
theorem put_mirQ {s : List (Nat × Int) × List Int} (h : s.2 ≠ []) (x : Int) : put true (mirT s.2.length s) x = mirT s.2.length (put false s x) := by
  unfold put mirT mirQ
  simp only [low_revQ h, mn_revQ h, List.map_append, List.map_cons, List.map_nil, set_revQ (low_lt h)]
theorem fold_mirQ (n : Nat) : ∀ (hs : List Int) (s : List (Nat × Int) × List Int), s.2 ≠ [] → s.2.length = n → hs.foldl (put true) (mirT n s) = mirT n (hs.foldl (put false) s)
  | [], _, _, _ => rfl
  | x :: hs, s, h, e => by
    show hs.foldl (put true) (put true (mirT n s) x) = mirT n (hs.foldl (put false) (put false s x))
    rw [← e, put_mirQ h, e]
    exact fold_mirQ n hs _ (put_ne h) (by show (s.2.set _ _).length = n; rw [List.length_set]; exact e)
theorem play_mirQ {cs : List Int} (h : cs ≠ []) (hs : List Int) : play true cs.reverse hs = mirT cs.length (play false cs hs) := fold_mirQ _ hs ([], cs) h rfl
theorem lay_right {B : Int} {n : Nat} {ts ws : List Int} (hn : 1 ≤ n) (hp : Poss n ts) (hw : IsWay n ts ws) (hB : ∀ t ∈ ts, t < B) (hB0 : 0 < B) :
    (play true (List.replicate n 0) (cow B ts ws)).1 = mirQ n (plc ws ts) := by
  have h := play_mirQ (cs := List.replicate n (0 : Int)) (fun e => by have := congrArg List.length e; rw [List.length_replicate] at this; simp only [List.length_nil] at this; omega) (cow B ts ws)
  rw [List.reverse_replicate, lay_all hn hp hw hB hB0, List.length_replicate] at h
  rw [h]; rfl
theorem plc_tops {ws ts : List Int} (h : ws.length = ts.length) : (plc ws ts).map (·.2) = ts := by
  refine List.ext_getElem? fun i => ?_
  by_cases hi : i < ts.length
  · rw [List.getElem?_map, plc_get h hi, get_of_getD hi]; rfl
  · rw [List.getElem?_eq_none (by rw [List.length_map, plc_len h]; omega), List.getElem?_eq_none (by omega)]
theorem plc_cols {ws ts : List Int} (h : ws.length = ts.length) (h0 : ∀ c ∈ ws, 0 ≤ c) : (plc ws ts).map (fun p => ((p.1 : Nat) : Int)) = ws := by
  refine List.ext_getElem? fun i => ?_
  by_cases hi : i < ts.length
  · have := h0 _ (Lc.getD_mem (show i < ws.length by omega))
    rw [List.getElem?_map, plc_get h hi, get_of_getD (show i < ws.length by omega)]
    show some (((ws.getD i 0).toNat : Nat) : Int) = _
    rw [Int.toNat_of_nonneg this]
  · rw [List.getElem?_eq_none (by rw [List.length_map, plc_len h]; omega), List.getElem?_eq_none (by omega)]
theorem mirQ_tops (n : Nat) (ps : List (Nat × Int)) : (mirQ n ps).map (·.2) = ps.map (·.2) := by unfold mirQ; rw [List.map_map]; rfl
theorem mirQ_cols {n : Nat} {ps : List (Nat × Int)} (h : ∀ p ∈ ps, p.1 < n) : (mirQ n ps).map (fun p => (n : Int) - 1 - ((p.1 : Nat) : Int)) = ps.map (fun p => ((p.1 : Nat) : Int)) := by
  unfold mirQ
  rw [List.map_map]
  refine List.map_congr_left fun p hp => ?_
  have := h p hp
  show (n : Int) - 1 - ((n - 1 - p.1 : Nat) : Int) = ((p.1 : Nat) : Int)
  omega
theorem plc_lt {n : Nat} {ws ts : List Int} (h : ∀ c ∈ ws, 0 ≤ c ∧ c < n) : ∀ p ∈ plc ws ts, p.1 < n := fun p hp => by
  obtain ⟨q, hq, rfl⟩ := List.mem_map.mp hp
  have := h q.1 (List.of_mem_zip hq).1
  show q.1.toNat < n
  omega
end Lc

namespace Lc
open PySem PySem.Spec PyProof.Rows L2
/-- data whose ints have up to 700 signs -/
structure NiceB (d : PyData) : Prop where
  sh : d.showable = true
  nd : d.hasDict = false
  dp : d.depth ≤ 40
  lf : d.leavesShort 700 = true
  bk : d.bulk ≤ 10000
def rReprX (K : PySem.W.Frag) : List V → Hp → VK → Prop := fun xs H Q =>
  (∃ i, xs = [V.int i] ∧ i.natAbs.log2 < 1920 ∧ Q (.str (toString i)) H) ∨ (xs = [V.non] ∧ Q (.str "None") H) ∨ (∃ a d, xs = [V.ref a] ∧ Dp K H (.ref a) d ∧ (Nice d ∨ NiceB d) ∧ Q (.str d.shown) H)
theorem call_repr_X {X : Cx} (hg : X.A.guards = some []) (hu : X.A.units + 64 < cLine) : CallR X (.builtin "repr") (rReprX X.K) := by
  intro pins s σ H xs us Q I r h
  rcases h with ⟨i, rfl, hz, q⟩ | ⟨rfl, q⟩ | ⟨a, d, rfl, hd, n, q⟩
  · obtain ⟨u, rfl, t, rfl⟩ := vals1 r
    exact PySem.P.repr_of_int hz ⟨.str _, H, I.tok _, ⟨_, rfl⟩, q⟩
  · obtain ⟨u, rfl, ru⟩ := vals1 r
    obtain rfl : u = Value.none := ru
    exact PySem.P.repr_of_none ⟨.str _, H, I.tok _, ⟨_, rfl⟩, q⟩
  · rcases n with n | n
    · exact call_repr_D hg hu pins s σ H _ us Q I r ⟨a, d, rfl, hd, n, q⟩
    · obtain ⟨u, rfl, ru⟩ := vals1 r
      obtain rfl : u = Value.ref a := ru
      obtain ⟨as, rd⟩ := Dp.reads I d (.ref a) (.ref a) hd rfl
      refine repr_of_reads' rd n.sh (PyData.noDict_hsm n.nd) hg (by have := n.dp; omega) (fun _ _ e => e) (fun h' v tk hk => ?_) ?_
      · exact ⟨.str d.shown, H, I.kept hk, ⟨_, rfl⟩, q⟩
      · have := PyData.shown_le_bulk 700 (by decide) d n.lf
        have := n.bk
        rw [sizeLine_eq]
        omega
theorem log_small {i : Int} (h : i.natAbs < 2 ^ 1919) : i.natAbs.log2 < 1920 := Nat.lt_trans (PySem.Flt.log2_lt_of (by decide) h) (by decide)
theorem niceB_ints {ns : List Int} (h : ∀ n ∈ ns, n.natAbs < 2 ^ 1919) (hl : ns.length ≤ 300) : NiceB (.list (ns.map PyData.int)) := by
  have a : ∀ l : List Int, (∀ n ∈ l, n.natAbs < 2 ^ 1919) → PyData.showableAll (l.map PyData.int) = true ∧ PyData.canLayAll0 (l.map PyData.int) = true ∧ PyData.depthAll (l.map PyData.int) = 0 ∧ PyData.leavesShortAll 700 (l.map PyData.int) = true ∧ PyData.bulkAll (l.map PyData.int) = l.length := fun l => by
    induction l with
    | nil => intro _; exact ⟨rfl, rfl, rfl, rfl, rfl⟩
    | cons n l ih =>
      intro h
      obtain ⟨a, b, c, d, e⟩ := ih fun x hx => h x (List.mem_cons_of_mem _ hx)
      have hn := h n List.mem_cons_self
      have hs : PyData.showable (.int n) = true := by
        show decide (n.natAbs.log2 < 1920) = true
        exact decide_eq_true (log_small hn)
      have hf : PyData.leavesShort 700 (.int n) = true := by
        simp only [PyData.leavesShort, decide_eq_true_eq]
        have e10 : (2 : Nat) ^ 1919 ≤ 10 ^ 600 := by decide +kernel
        have := int_text_length_le10 (a := n) (k := 600) (by decide) (Nat.lt_of_lt_of_le hn e10)
        show (Str.ofString (toString n)).length ≤ 700
        rw [PySem.ofString_length]
        omega
      refine ⟨?_, ?_, ?_, ?_, ?_⟩
      · simp only [List.map_cons, PyData.showableAll, hs, a, Bool.and_self]
      · simp only [List.map_cons, PyData.canLayAll0, PyData.canLay0, b, Bool.and_self]
      · simp only [List.map_cons, PyData.depthAll, PyData.depth, c]; rfl
      · simp only [List.map_cons, PyData.leavesShortAll, hf, d, Bool.and_self]
      · simp only [List.map_cons, PyData.bulkAll, PyData.bulk, e, List.length_cons]; omega
  obtain ⟨a, b, c, d, e⟩ := a ns h
  refine ⟨by simpa only [PyData.showable] using a, PyData.hasDict_of_canLay _ (by simpa only [PyData.canLay0] using b), ?_, by simpa only [PyData.leavesShort] using d, ?_⟩
  · simp only [PyData.depth, c]; decide
  · simp only [PyData.bulk, e]; omega
/-! ### binomials, numbers of ways -/
def binRow (n : Nat) : List Int := (List.range (n + 1)).map fun k => ((bin n k : Nat) : Int)
theorem binRow_len (n : Nat) : (binRow n).length = n + 1 := by unfold binRow; rw [List.length_map, List.length_range]
theorem binRow_get {n k : Nat} (h : k ≤ n) : (binRow n)[k]? = some ((bin n k : Nat) : Int) := by
  unfold binRow
  rw [List.getElem?_map, List.getElem?_range (by omega)]; rfl
theorem binRow_step {n i : Nat} {x y : Int} (hx : (0 :: binRow n)[i]? = some x) (hy : (binRow n ++ [0])[i]? = some y) : (binRow (n + 1))[i]? = some (x + y) := by
  have hi : i < n + 2 := by have := get_lt hx; rw [List.length_cons, binRow_len] at this; omega
  rw [binRow_get (by omega)]
  cases i with
  | zero =>
    obtain rfl : 0 = x := Option.some.inj hx
    rw [List.getElem?_append_left (by rw [binRow_len]; omega), binRow_get (by omega)] at hy
    obtain rfl := Option.some.inj hy
    rw [bin_zero, bin_zero]; rfl
  | succ k =>
    have hx' : (binRow n)[k]? = some x := hx
    rw [binRow_get (by omega)] at hx'
    obtain rfl := Option.some.inj hx'
    rw [bin_succ]
    rcases Nat.lt_or_ge k n with h | h
    · rw [List.getElem?_append_left (by rw [binRow_len]; omega), binRow_get (by omega)] at hy
      obtain rfl := Option.some.inj hy
      rw [Int.natCast_add]
    · have : k = n := by omega
      subst this
      rw [List.getElem?_append_right (by rw [binRow_len]; exact Nat.le_refl _), binRow_len, Nat.sub_self] at hy
      obtain rfl : 0 = y := Option.some.inj hy
      rw [bin_le k (k + 1) (by omega)]; rfl
theorem bin_pow : ∀ n k, k ≤ n → bin n k ≤ n ^ k
  | n, 0, _ => by rw [bin_zero]; exact Nat.le_refl 1
  | 0, k + 1, h => absurd h (by omega)
  | n + 1, k + 1, h => by
    rw [bin_succ]
    have h1 := bin_pow n k (by omega)
    have h2 : bin n (k + 1) ≤ n * n ^ k := by
      rcases Nat.lt_or_ge n (k + 1) with hl | hl
      · rw [bin_le n (k + 1) hl]; exact Nat.zero_le _
      · have := bin_pow n (k + 1) hl
        rw [Nat.pow_succ, Nat.mul_comm] at this; exact this
    have h3 : n ^ k ≤ (n + 1) ^ k := Nat.pow_le_pow_left (by omega) k
    calc bin n k + bin n (k + 1) ≤ n ^ k + n * n ^ k := Nat.add_le_add h1 h2
      _ = (n + 1) * n ^ k := by rw [Nat.add_mul, Nat.one_mul, Nat.add_comm]
      _ ≤ (n + 1) * (n + 1) ^ k := Nat.mul_le_mul_left _ h3
      _ = (n + 1) ^ (k + 1) := by rw [Nat.pow_succ, Nat.mul_comm]
theorem cnt_pow {n : Nat} : ∀ (l : List Nat), (∀ s ∈ l, s ≤ n) → cntW n l ≤ n ^ l.sum := snocN_ind (fun _ => Nat.le_refl 1) fun l s ih h => by
  rw [cntW_snoc, List.sum_append]
  simp only [List.sum_cons, List.sum_nil, Nat.add_zero]
  rw [Nat.pow_add]
  exact Nat.mul_le_mul (ih fun x hx => h x (List.mem_append_left _ hx)) (bin_pow n s (h s (List.mem_append_right _ (List.mem_singleton.mpr rfl))))
theorem pow_fits {n k : Nat} (hn : n ≤ 30) (hk : k ≤ 200) : n ^ k < 2 ^ 1000 := by
  have e : (30 : Nat) ^ 200 < 2 ^ 1000 := by decide +kernel
  exact Nat.lt_of_le_of_lt (Nat.le_trans (Nat.pow_le_pow_left hn k) (Nat.pow_le_pow_right (by decide) hk)) e
theorem rl_strict : ∀ l : List Int, l.Pairwise (· < ·) → (rl l).map (·.2) = List.replicate l.length 1 := snoc_ind (fun _ => rfl) fun l x ih h => by
  have h' := List.pairwise_append.mp h
  rw [sizes_new fun y hy => ?_, ih h'.1, List.length_append]
  · show List.replicate l.length 1 ++ [1] = List.replicate (l.length + 1) 1
    rw [List.replicate_succ']
  · have := h'.2.2 y (List.mem_of_getLast? hy) x (List.mem_singleton.mpr rfl)
    omega
theorem cnt_ones (n : Nat) : ∀ k, cntW n (List.replicate k 1) = n ^ k
  | 0 => rfl
  | k + 1 => by rw [List.replicate_succ', cntW_snoc, cnt_ones n k, bin_one, Nat.pow_succ]
theorem rl_same (v : Int) : ∀ k, (rl (List.replicate (k + 1) v)).map (·.2) = [k + 1]
  | 0 => rfl
  | k + 1 => by
    rw [List.replicate_succ', sizes_same (y := v) (by rw [List.replicate_succ', List.getLast?_append]; rfl) rfl, rl_same v k]; rfl
theorem cnt_same (n k : Nat) (v : Int) : cntW n ((rl (List.replicate k v)).map (·.2)) = bin n k := by
  cases k with
  | zero => rw [bin_zero]; rfl
  | succ k => rw [rl_same]; show 1 * bin n (k + 1) = _; rw [Nat.one_mul]
/-- zeros, then 1, 2, .. -/
def rise (n k : Nat) : List Int := List.replicate n 0 ++ (List.range k).map fun j => ((j : Nat) : Int) + 1
theorem rise_len (n k : Nat) : (rise n k).length = n + k := by unfold rise; rw [List.length_append, List.length_replicate, List.length_map, List.length_range]
theorem rise_at {n k i : Nat} (h : i < n + k) : (rise n k).getD i 0 = if i < n then 0 else (((i - n : Nat) : Int) + 1) := by
  rw [List.getD_eq_getElem?_getD]
  unfold rise
  by_cases hi : i < n
  · rw [if_pos hi, List.getElem?_append_left (by rw [List.length_replicate]; exact hi), List.getElem?_replicate, if_pos hi]; rfl
  · rw [if_neg hi, List.getElem?_append_right (by rw [List.length_replicate]; omega), List.length_replicate, List.getElem?_map, List.getElem?_range (by omega)]; rfl
theorem rise_poss {n k : Nat} (hn : 1 ≤ n) : Poss n (rise n k) := fun i hi => by
  rw [rise_len] at hi
  unfold okAt
  rw [rise_at hi]
  by_cases h : i < n
  · rw [if_pos h, if_pos h]; rfl
  · rw [if_neg h, if_neg h, rise_at (show i - 1 < n + k by omega), rise_at (show i - n < n + k by omega), Bool.and_eq_true_iff]
    constructor <;> refine decide_eq_true ?_ <;> split <;> omega
theorem rise_count {n k : Nat} : countW n (rise n k) = n ^ k := by
  unfold countW
  rw [show szs n (rise n k) = List.replicate k 1 by
    unfold rise
    rw [szs_zeros, rl_strict]
    · rw [List.length_map, List.length_range]
    · rw [List.pairwise_map]
      exact List.pairwise_lt_range.imp fun h => by omega]
  exact cnt_ones n k
theorem rise_tops {n k : Nat} (h : n + k ≤ 200) : IsTops (rise n k) := ⟨by rw [rise_len]; exact h, fun t ht => by
  unfold rise at ht
  rcases List.mem_append.mp ht with ht | ht
  · rw [(List.mem_replicate.mp ht).2]; decide
  · obtain ⟨j, hj, rfl⟩ := List.mem_map.mp ht
    have := List.mem_range.mp hj
    omega⟩
end Lc

namespace Lc
open PySem PySem.Spec PyProof.Rows L2
/-! ### spans of cards -/
/-- column, top, bottom of each card -/
def spn (cs hs : List Int) : List (Nat × Int × Int) := ((play false cs hs).1.zip hs).map fun q => (q.1.1, q.1.2, q.1.2 + q.2)
theorem spn_len (cs hs : List Int) : (spn cs hs).length = hs.length := by
  unfold spn
  rw [List.length_map, List.length_zip, play_len, Nat.min_self]
theorem spn_snoc (cs hs : List Int) (h : Int) : spn cs (hs ++ [h]) = spn cs hs ++ [(low false (play false cs hs).2, mn (play false cs hs).2, mn (play false cs hs).2 + h)] := by
  unfold spn
  rw [play_snoc]
  show ((((play false cs hs).1 ++ [(low false (play false cs hs).2, mn (play false cs hs).2)]).zip (hs ++ [h])).map _) = _
  rw [List.zip_append (play_len false cs hs), List.map_append]; rfl
theorem spn_take {cs hs : List Int} {i : Nat} {h : Int} (e : hs[i]? = some h) : spn cs (hs.take (i + 1)) = spn cs (hs.take i) ++ [(low false (play false cs (hs.take i)).2, mn (play false cs (hs.take i)).2, mn (play false cs (hs.take i)).2 + h)] := by
  rw [List.take_add_one, e]
  exact spn_snoc _ _ _
theorem spn_at {cs hs : List Int} {i : Nat} {q : Nat × Int} {h : Int} (e1 : (play false cs hs).1[i]? = some q) (e2 : hs[i]? = some h) : (spn cs hs)[i]? = some (q.1, q.2, q.2 + h) := by
  unfold spn
  rw [List.getElem?_map, show ((play false cs hs).1.zip hs)[i]? = some (q, h) from List.getElem?_zip_eq_some.mpr ⟨e1, e2⟩]; rfl
theorem spn_tops (cs hs : List Int) : (spn cs hs).map (fun p => p.2.1) = tops cs hs := by
  unfold spn tops
  rw [List.map_map]
  have : ∀ (a : List (Nat × Int)) (b : List Int), a.length = b.length → (a.zip b).map ((fun p : Nat × Int × Int => p.2.1) ∘ fun q : (Nat × Int) × Int => (q.1.1, q.1.2, q.1.2 + q.2)) = a.map (·.2) := fun a => by
    induction a with
    | nil => intro b h; rfl
    | cons x a ih =>
      intro b h
      cases b with
      | nil => cases h
      | cons y b =>
        show x.2 :: _ = x.2 :: _
        exact congrArg (x.2 :: ·) (ih b (by simpa using h))
  exact this _ _ (play_len false cs hs)
theorem spn_top {cs hs : List Int} {i : Nat} {p : Nat × Int × Int} (e : (spn cs hs)[i]? = some p) : (tops cs hs).getD i 0 = p.2.1 := by
  rw [← spn_tops, List.getD_eq_getElem?_getD, List.getElem?_map, e]; rfl
theorem spn_sum {cs hs : List Int} {i : Nat} {p : Nat × Int × Int} {h : Int} (e : (spn cs hs)[i]? = some p) (e2 : hs[i]? = some h) : p.2.2 = p.2.1 + h := by
  have hi := get_lt e2
  have e1 : (play false cs hs).1[i]? = some ((play false cs hs).1[i]'(by rw [play_len]; exact hi)) := List.getElem?_eq_getElem _
  rw [spn_at e1 e2] at e
  rw [← Option.some.inj e]
theorem spn_col {cs hs : List Int} (hne : cs ≠ []) {p : Nat × Int × Int} (h : p ∈ spn cs hs) : p.1 < cs.length := by
  unfold spn at h
  obtain ⟨q, hq, rfl⟩ := List.mem_map.mp h
  exact play_lt hne q.1 (List.of_mem_zip hq).1
theorem tops_in {cs hs : List Int} (hne : cs ≠ []) (hc : ∀ c ∈ cs, 0 ≤ c ∧ c ≤ 1000000000000000000000000000000) (hh : ∀ h ∈ hs, 1 ≤ h ∧ h ≤ 1000000000000000000000000000000) (hl : hs.length ≤ 200) :
    (∀ c ∈ (play false cs hs).2, 0 ≤ c ∧ c ≤ 1000000000000000000000000000000000) ∧ ∀ t ∈ tops cs hs, 0 ≤ t ∧ t ≤ 1000000000000000000000000000000000 := by
  have q := fold_high false 1000000000000000000000000000000 hs ([], cs) 1000000000000000000000000000000 hne (fun h hm => by have := hh h hm; omega) hc (fun t ht => by cases ht) (by decide)
  have hb : 1000000000000000000000000000000 + (hs.length : Int) * 1000000000000000000000000000000 ≤ 1000000000000000000000000000000000 := by omega
  exact ⟨fun c h => by have := q.1 c h; exact ⟨this.1, Int.le_trans this.2 hb⟩, fun t h => by have := q.2 t h; exact ⟨this.1, Int.le_trans this.2 hb⟩⟩
/-- the spans as they lie on the heap -/
def Tri (H : Hp) (l : List V) (ts : List (Nat × Int × Int)) : Prop := l.length = ts.length ∧ ∀ (i : Nat) (v : V) (p : Nat × Int × Int), l[i]? = some v → ts[i]? = some p → ∃ q, v = .ref q ∧ H q = some (.tup [.int (p.1 : Nat), .int p.2.1, .int p.2.2])
theorem Tri.nil {H : Hp} : Tri H [] [] := ⟨rfl, fun i v p e => by cases e⟩
theorem Tri.same {H H' : Hp} {l : List V} {ps : List (Nat × Int × Int)} (h : Tri H l ps) (s : Same H H') : Tri H' l ps := ⟨h.1, fun i v p e1 e2 => by
  obtain ⟨q, e, hq⟩ := h.2 i v p e1 e2
  exact ⟨q, e, s _ _ hq⟩⟩
theorem Tri.but {H H' : Hp} {a : Addr} {l : List V} {ps : List (Nat × Int × Int)} (h : Tri H l ps) (n : ∀ xs, H a ≠ some (.tup xs)) (s : But a H H') : Tri H' l ps := ⟨h.1, fun i v p e1 e2 => by
  obtain ⟨q, e, hq⟩ := h.2 i v p e1 e2
  exact ⟨q, e, s _ _ (fun z => n _ (z ▸ hq)) hq⟩⟩
theorem Tri.snoc {H : Hp} {l : List V} {ps : List (Nat × Int × Int)} {q : Addr} {p : Nat × Int × Int} (h : Tri H l ps) (hq : H q = some (.tup [.int (p.1 : Nat), .int p.2.1, .int p.2.2])) : Tri H (l ++ [.ref q]) (ps ++ [p]) := by
  refine ⟨by rw [List.length_append, List.length_append, h.1]; rfl, fun i v p' e1 e2 => ?_⟩
  by_cases hi : i < l.length
  · rw [List.getElem?_append_left hi] at e1
    rw [List.getElem?_append_left (by rw [← h.1]; exact hi)] at e2
    exact h.2 i v p' e1 e2
  · rw [List.getElem?_append_right (by omega)] at e1
    rw [List.getElem?_append_right (by rw [← h.1]; omega), ← h.1] at e2
    cases hk : i - l.length with
    | zero =>
      rw [hk] at e1 e2
      cases e1
      cases e2
      exact ⟨q, rfl, hq⟩
    | succ k => rw [hk] at e1; cases e1
/-- a comprehension over triples -/
theorem tri_lc {K : PySem.W.Frag} {a D : Addr} {l : List V} {ps : List (Nat × Int × Int)} {te : TE} {i j m : Nat} {vs : List Nat} {σ : L2.St} {H : Hp} {Qd : Hp → Prop} (fn : Nat × Int × Int → Int) (ha : H a = some (.lst l)) (hP : Tri H l ps) (hl : ps.length ≤ 1000) (nD : H D = none)
    (hw : ∀ u v x, wipe ((((wipe σ vs).set i (some u)).set j (some v)).set m (some x)) vs = wipe σ vs) (ht : ∀ p ∈ ps, ∀ (H' : Hp) (Q : VK), Q (.int (fn p)) H' → te ((((wipe σ vs).set i (some (.int (p.1 : Nat)))).set j (some (.int p.2.1))).set m (some (.int p.2.2))) H' Q)
    (k : ∀ H', Same H H' → H' D = some (.lst ((ps.map fn).map V.int)) → Qd H') :
    ∃ W : Nat → Nat → Hp → Prop, (∃ m, W 0 m (upd H D (.lst []))) ∧ ∀ i' m' H, W i' m' H →
      ((Itl K a).stop i' H ∧ Qd H) ∨ ((Itl K a).go i' H ∧ ∃ Nx : Hp → Prop, (∀ H', Nx H' → ∃ m'', m'' < m' ∧ W (i' + 1) m'' H') ∧ ∀ x H', (Itl K a).yld i' H x H' → (gTup K 3 (gCons (gName i) (gCons (gName j) (gCons (gName m) gNil)))) x (wipe σ vs) H' fun σ2 H2 => wipe σ2 vs = wipe σ vs ∧ tYes σ2 H2 fun b H3 =>
        if b = true then te σ2 H3 fun y H4 => ∃ acc, H4 D = some (.lst acc) ∧ acc.length < sizeLine ∧ Nx (upd H4 D (.lst (acc ++ [y]))) else Nx H3) := by
  refine lc_list (K := K) (a := a) (xs := l) (fun i H' => Same H H' ∧ H' D = some (.lst (((ps.map fn).take i).map V.int))) ⟨same_new _ nD, upd_same⟩ (fun i H' _ h => SqL.of (h.1 _ _ ha)) (fun k' x H' e h => ?_) (fun H' h => ?_)
  · obtain ⟨sm, eD⟩ := h
    have il : k' < ps.length := by rw [← hP.1]; exact get_lt e
    have ep := List.getElem?_eq_getElem il
    obtain ⟨z, rfl, hz⟩ := hP.2 k' x _ e ep
    refine ⟨z, [_, _, _], rfl, SqT.of (sm _ _ hz), rfl, _, [_, _], rfl, _, [_], rfl, _, [], rfl, rfl, hw _ _ _, ?_⟩
    show te _ H' _
    refine ht ps[k'] (List.mem_of_getElem? ep) _ _ ⟨_, eD, ?_, same_set sm nD, ?_⟩
    · rw [List.length_map, List.length_take, List.length_map]; exact small_of (m := 1000) (by omega) (by decide)
    · rw [upd_same]
      refine congrArg (fun z => some (HO.lst z)) (take_map_succ V.int ?_)
      rw [List.getElem?_map, ep]; rfl
  · obtain ⟨sm, eD⟩ := h
    have e1 : l.length = (ps.map fn).length := by rw [List.length_map]; exact hP.1
    rw [e1, List.take_length] at eD
    exact k H' sm eD
/-- the numbers of the spans that a test takes -/
def pick (p : Nat × Int × Int → Bool) (ts : List (Nat × Int × Int)) : List Nat := (List.range ts.length).filter fun i => p (ts.getD i (0, 0, 0))
theorem pick_snoc (p : Nat × Int × Int → Bool) {ts : List (Nat × Int × Int)} {i : Nat} {x : Nat × Int × Int} (e : ts[i]? = some x) : pick p (ts.take (i + 1)) = pick p (ts.take i) ++ (if p x = true then [i] else []) := by
  have hi := get_lt e
  unfold pick
  have l1 : (ts.take (i + 1)).length = i + 1 := by rw [List.length_take]; omega
  have l0 : (ts.take i).length = i := by rw [List.length_take]; omega
  rw [l1, l0, List.range_succ, List.filter_append]
  congr 1
  · refine List.filter_congr fun j hj => ?_
    have hj := List.mem_range.mp hj
    rw [List.getD_eq_getElem?_getD, List.getD_eq_getElem?_getD, List.getElem?_take_of_lt (by omega), List.getElem?_take_of_lt hj]
  · rw [List.filter_cons, List.getD_eq_getElem?_getD, List.getElem?_take_of_lt (by omega), e]
    show (if p x = true then _ else _) = _
    by_cases h : p x = true
    · rw [if_pos h, if_pos h]; rfl
    · rw [if_neg h, if_neg h]; rfl
theorem pick_len (p : Nat × Int × Int → Bool) (ts : List (Nat × Int × Int)) : (pick p ts).length ≤ ts.length := by
  unfold pick
  refine Nat.le_trans (List.length_filter_le _ _) ?_
  rw [List.length_range]; exact Nat.le_refl _
/-- a comprehension over enumerate of triples, with a test: the numbers -/
theorem pick_lc {K : PySem.W.Frag} {a D : Addr} {l : List V} {ts : List (Nat × Int × Int)} {g : TG} {tt : TT} {te : TE} {vs : List Nat} {σ : L2.St} {H : Hp} {Qd : Hp → Prop} (p : Nat × Int × Int → Bool) (ha : H a = some (.lst l)) (hP : Tri H l ts) (hl : ts.length ≤ 1000) (nD : H D = none)
    (hs : ∀ (i : Nat) (x : Nat × Int × Int) (q Tp : Addr) (H' : Hp), H' Tp = some (.tup [.int (i : Nat), .ref q]) → H' q = some (.tup [.int (x.1 : Nat), .int x.2.1, .int x.2.2]) → ∀ R : L2.St → Hp → Prop,
      (∀ σ2, wipe σ2 vs = wipe σ vs → (∀ (k : Bool → Hp → Prop), k (p x) H' → tt σ2 H' k) → (∀ Q : VK, Q (.int (i : Nat)) H' → te σ2 H' Q) → R σ2 H') → g (.ref Tp) (wipe σ vs) H' R)
    (k : ∀ H', Same H H' → H' D = some (.lst ((nat2 (pick p ts)).map V.int)) → Qd H') :
    ∃ W : Nat → Nat → Hp → Prop, (∃ m, W 0 m (upd H D (.lst []))) ∧ ∀ i m H, W i m H →
      (((Ite K a).stop i H ∧ Qd H) ∨ ((Ite K a).go i H ∧ ∃ Nx : Hp → Prop, (∀ H', Nx H' → ∃ m', m' < m ∧ W (i + 1) m' H') ∧
        ∀ x H', (Ite K a).yld i H x H' → g x (wipe σ vs) H' fun σ2 H2 => wipe σ2 vs = wipe σ vs ∧ tt σ2 H2 fun b H3 =>
          if b = true then te σ2 H3 fun y H4 => ∃ acc, H4 D = some (.lst acc) ∧ acc.length < sizeLine ∧ Nx (upd H4 D (.lst (acc ++ [y]))) else Nx H3)) := by
  refine lc_enum (K := K) (a := a) (xs := l) (fun i H' => Same H H' ∧ H' D = some (.lst ((nat2 (pick p (ts.take i))).map V.int))) ⟨same_new _ nD, upd_same⟩ (fun i H' _ h => SqL.of (h.1 _ _ ha)) (fun i v H' T e h nT => ?_) (fun H' h => ?_)
  · obtain ⟨sm, eD⟩ := h
    have il : i < ts.length := by rw [← hP.1]; exact get_lt e
    have ep := List.getElem?_eq_getElem il
    obtain ⟨z, rfl, hz⟩ := hP.2 i v _ e ep
    have sT := same_new (H := H') (p := T) (.tup [.int (i : Nat), .ref z]) nT
    refine hs i ts[i] z T _ upd_same (sT _ _ (sm _ _ hz)) _ fun σ2 hw htt hte => ⟨hw, htt _ ?_⟩
    have st := pick_snoc p ep
    have S1 := sm.trans sT
    have eD1 := sT _ _ eD
    by_cases hp : p ts[i] = true
    · rw [if_pos hp] at st
      refine ite_t hp (hte _ ⟨_, eD1, ?_, same_set S1 nD, ?_⟩)
      · rw [List.length_map]
        unfold nat2
        rw [List.length_map]
        have := pick_len p (ts.take i)
        rw [List.length_take] at this
        exact small_of (m := 1000) (by omega) (by decide)
      · rw [upd_same, st, nat2_append, List.map_append]; rfl
    · rw [if_neg hp, List.append_nil] at st
      exact ite_f hp ⟨S1, by rw [st]; exact eD1⟩
  · obtain ⟨sm, eD⟩ := h
    rw [hP.1, List.take_length] at eD
    exact k H' sm eD
end Lc

namespace Lc
open PySem PySem.Spec PyProof.Rows L2
/-- a list that is read, + a list -/
def rCatR (K : PySem.W.Frag) : R2 := fun x y H Q => ∃ l b xs zs, x = .ref l ∧ y = .ref b ∧ SqL K H l xs ∧ SqL K H b zs ∧ xs.length + zs.length ≤ sizeLine ∧ ∀ p, H p = none → Q (.ref p) (upd H p (.lst (xs ++ zs)))
theorem op_catR {X : Cx} : OpR X (binaryOp .Add) (rCatR X.K) := by
  intro pins s σ H x y v u Q I rx ry h
  obtain ⟨l, b, xs, zs, rfl, rfl, hH, hB, hz, q⟩ := h
  cases rx
  cases ry
  obtain ⟨its, r, ⟨⟨cls, dd, data, sl⟩, n, e, hc, hd, hs⟩, hl⟩ := I.list hH
  obtain ⟨its2, r2, ⟨⟨cls2, dd2, data2, sl2⟩, n2, e2, hc2, hd2, hs2⟩, hl2⟩ := I.list hB
  simp only at hc hd hs hc2 hd2 hs2
  subst hc hd hs hc2 hd2 hs2
  have l1 := r.length
  have l2 := r2.length
  have ea : its.toArray ++ its2.toArray = (its ++ its2).toArray := by simp
  refine concat_meets ⟨_, e, rfl⟩ ⟨_, e2, rfl⟩ noFill_list_add seq_list_add PySem.F.slot_list_add PySem.F.entry_list_add (PySem.F.args_list_add_2 _ _) (list_addW l b its.toArray its2.toArray n n2 _ _ sl sl2 (by rw [List.size_toArray, List.size_toArray]; omega)) ⟨e, e2, ?_⟩
  rw [ea]
  exact ⟨.ref _, _, I.lnew (t' := s.toks) (r.append r2) (by rw [List.length_append]; omega), rfl, q _ I.fresh⟩
end Lc

namespace Lc
open PySem PySem.Spec PyProof.Rows L2
/-! any value: scalars, lists and tuples of ints, an empty dict; and lists of these -/
inductive Sv (H : Hp) : V → PyData → Prop where
  | non : Sv H .non .none
  | bl (b : Bool) : Sv H (.bl b) (.bool b)
  | int (i : Int) (h : i.natAbs < 10 ^ 90) : Sv H (.int i) (.int i)
  | one : Sv H (.str "1") (.str "1")
  | lst {a : Addr} {ns : List Int} (e : H a = some (.lst (ns.map V.int))) (h : ∀ n ∈ ns, n.natAbs < 10 ^ 90) (hl : ns.length ≤ 300) : Sv H (.ref a) (.list (ns.map PyData.int))
  | tup {a : Addr} {ns : List Int} (e : H a = some (.tup (ns.map V.int))) (h : ∀ n ∈ ns, n.natAbs < 10 ^ 90) (hl : ns.length ≤ 300) : Sv H (.ref a) (.tuple (ns.map PyData.int))
  | dct {a : Addr} (e : H a = some (.dK [])) : Sv H (.ref a) (.dict [])
inductive SvAll (H : Hp) : List V → List PyData → Prop where
  | nil : SvAll H [] []
  | cons {x : V} {d : PyData} {xs : List V} {ds : List PyData} : Sv H x d → SvAll H xs ds → SvAll H (x :: xs) (d :: ds)
inductive Th (H : Hp) : V → PyData → Prop where
  | sv {x : V} {d : PyData} (h : Sv H x d) : Th H x d
  | row {a : Addr} {xs : List V} {ds : List PyData} (e : H a = some (.lst xs)) (h : SvAll H xs ds) (hl : xs.length ≤ 300) : Th H (.ref a) (.list ds)
theorem Sv.same {H H' : Hp} {x : V} {d : PyData} (h : Sv H x d) (s : Same H H') : Sv H' x d := by
  cases h with
  | non => exact .non
  | bl b => exact .bl b
  | int i h => exact .int i h
  | one => exact .one
  | lst e h hl => exact .lst (s _ _ e) h hl
  | tup e h hl => exact .tup (s _ _ e) h hl
  | dct e => exact .dct (s _ _ e)
theorem SvAll.same {H H' : Hp} (s : Same H H') : ∀ {xs : List V} {ds : List PyData}, SvAll H xs ds → SvAll H' xs ds
  | _, _, .nil => .nil
  | _, _, .cons h hs => .cons (h.same s) (SvAll.same s hs)
theorem Th.same {H H' : Hp} {x : V} {d : PyData} (h : Th H x d) (s : Same H H') : Th H' x d := by
  cases h with
  | sv h => exact .sv (h.same s)
  | row e h hl => exact .row (s _ _ e) (h.same s) hl
theorem SvAll.len {H : Hp} : ∀ {xs : List V} {ds : List PyData}, SvAll H xs ds → ds.length = xs.length
  | _, _, .nil => rfl
  | _, _, .cons _ hs => by rw [List.length_cons, List.length_cons, SvAll.len hs]
/-- what repr asks of the data -/
structure Sh (k N : Nat) (d : PyData) : Prop where
  sh : d.showable = true
  dp : d.depth ≤ k
  lf : d.leavesShort 100 = true
  bk : d.bulk ≤ N
theorem Nc.toSh {k N : Nat} {d : PyData} (h : Nc k N d) : Sh k N d := ⟨h.sh, h.dp, h.lf, h.bk⟩
theorem Sh.mono {k N k' N' : Nat} {d : PyData} (h : Sh k N d) (h1 : k ≤ k') (h2 : N ≤ N') : Sh k' N' d := ⟨h.sh, Nat.le_trans h.dp h1, h.lf, Nat.le_trans h.bk h2⟩
theorem sh_all {k N : Nat} : ∀ {ds : List PyData}, (∀ d ∈ ds, Sh k N d) → PyData.showableAll ds = true ∧ PyData.depthAll ds ≤ k ∧ PyData.leavesShortAll 100 ds = true ∧ PyData.bulkAll ds ≤ ds.length * (N + 1)
  | [], _ => ⟨rfl, Nat.zero_le _, rfl, Nat.zero_le _⟩
  | d :: ds, h => by
    have h1 := h d List.mem_cons_self
    obtain ⟨a, c, e, f⟩ := sh_all fun x hx => h x (List.mem_cons_of_mem d hx)
    refine ⟨?_, ?_, ?_, ?_⟩
    · simp only [PyData.showableAll, h1.sh, a, Bool.and_self]
    · simp only [PyData.depthAll]
      exact Nat.max_le.mpr ⟨h1.dp, c⟩
    · simp only [PyData.leavesShortAll, h1.lf, e, Bool.and_self]
    · simp only [PyData.bulkAll, List.length_cons]
      have := h1.bk
      rw [Nat.add_mul]
      omega
theorem sh_list {k N : Nat} {ds : List PyData} (h : ∀ d ∈ ds, Sh k N d) : Sh (k + 1) (ds.length * (N + 1)) (.list ds) := by
  obtain ⟨a, c, e, f⟩ := sh_all h
  refine ⟨by simpa only [PyData.showable] using a, ?_, by simpa only [PyData.leavesShort] using e, by simpa only [PyData.bulk] using f⟩
  simp only [PyData.depth]
  omega
theorem Sv.shd {H : Hp} {x : V} {d : PyData} (h : Sv H x d) : Sh 1 301 d := by
  cases h with
  | non => exact ⟨rfl, by decide, rfl, by decide⟩
  | bl b => cases b <;> exact ⟨rfl, by decide, rfl, by decide⟩
  | int i h => exact (nc_int h).toSh.mono (by decide) (by decide)
  | one => exact ⟨rfl, by decide, by decide, by decide⟩
  | lst e h hl => exact (nc_ints h hl).toSh.mono (by decide) (by decide)
  | tup e h hl =>
    rename_i ns
    have q := nc_tup (k := 0) (N := 0) (ds := ns.map PyData.int) fun d hd => by
      obtain ⟨n, hn, rfl⟩ := List.mem_map.mp hd
      exact nc_int (h n hn)
    rw [List.length_map] at q
    exact q.toSh.mono (by decide) (by omega)
  | dct e => exact ⟨by decide, by decide, by decide, by decide⟩
theorem SvAll.shd {H : Hp} : ∀ {xs : List V} {ds : List PyData}, SvAll H xs ds → ∀ d ∈ ds, Sh 1 301 d
  | _, _, .nil, d, hd => by cases hd
  | _, _, .cons h hs, d, hd => by
    rcases List.mem_cons.mp hd with rfl | hd
    · exact h.shd
    · exact SvAll.shd hs d hd
theorem Th.shd {H : Hp} {x : V} {d : PyData} (h : Th H x d) : Sh 2 90600 d := by
  cases h with
  | sv h => exact h.shd.mono (by decide) (by decide)
  | row e h hl =>
    refine (sh_list h.shd).mono (by decide) ?_
    rw [h.len]
    have := Nat.mul_le_mul_right 302 hl
    omega
theorem Sh.short {k N : Nat} {d : PyData} (h : Sh k N d) (hN : N ≤ 100000) : d.shown.length ≤ sizeLine := by
  have := PyData.shown_le_bulk 100 (by decide) d h.lf
  have := h.bk
  rw [sizeLine_eq]
  omega
section
variable {X : Cx} {pins : List (Addr × Obj)} {σ : L2.St} {H : Hp} {s : Shared}
theorem ints_read {h : Heap} : ∀ {ns : List Int} {us : List Value}, Vals (ns.map V.int) us → ReadsAll h us (ns.map PyData.int) []
  | [], _, r => by cases r; exact .nil
  | n :: ns, _, r => by
    cases r with
    | cons r1 r2 =>
      obtain ⟨t, rfl⟩ := r1
      exact ReadsAll.cons (as := []) (bs := []) (.int n t) (ints_read r2)
theorem Sv.reads (I : Inv X pins σ H s) {x : V} {d : PyData} {u : Value} (h : Sv H x d) (r : RelV x u) : ∃ as, Reads s.heap u d as ∧ (d.hasDict = true → sysModules ∉ as) := by
  cases h with
  | non => cases r; exact ⟨_, .none, fun _ => by simp⟩
  | bl b => cases r; exact ⟨_, .bool b, fun _ => by simp⟩
  | int i h => obtain ⟨t, rfl⟩ := r; exact ⟨_, .int i t, fun _ => by simp⟩
  | one => obtain ⟨t, rfl⟩ := r; exact ⟨_, .str "1" t, fun _ => by simp⟩
  | lst e h hl =>
    cases r
    obtain ⟨its, rv, ⟨o, n, ho, hc, _, hd⟩, _⟩ := I.list (SqL.of e)
    exact ⟨_, Reads.list ho hc hd (ints_read rv), PyData.noDict_hsm (PyData.hasDict_of_canLay _ (nc_ints h hl).cl)⟩
  | tup e h hl =>
    cases r
    obtain ⟨its, rv, ⟨o, ho, hc, n, hd⟩, _⟩ := I.tuple (SqT.of e)
    exact ⟨_, Reads.tuple ho hc hd (ints_read rv), fun _ => by simp⟩
  | @dct a e =>
    cases r
    obtain ⟨_, ha, vs, kv, o, es, ep, ho, hx, hd, hk, hp, _⟩ := dk_of I.hok e
    cases kv
    have e0 : es.toList = [] := by
      cases hl : es.toList with
      | nil => rfl
      | cons y ys => rw [hl] at hp; cases hp
    refine ⟨_, Reads.dict (as := []) (bs := []) ho hx.1 hd (by rw [e0]; exact .nil) (by rw [e0]; exact .nil), fun _ hm => ?_⟩
    have : sysModules = a := by simpa using hm
    rw [this] at ha
    simp at ha
theorem SvAll.reads (I : Inv X pins σ H s) : ∀ {xs : List V} {ds : List PyData} {us : List Value}, SvAll H xs ds → Vals xs us → (∀ t ∈ PyData.shownAll ds, t.length ≤ sizeLine) →
    ∃ as bs, ReadsAll s.heap us ds as ∧ ReadAtMost s.heap (PyData.depthAll ds) bs ∧ ReprAllK X.prog X.w bs s.heap (PyData.depthAll ds) us (PyData.shownAll ds)
  | _, _, _, .nil, r, _ => by
    cases r
    exact ⟨[], [], .nil, (fun _ h => nomatch h), by simp only [PyData.shownAll]; exact .nil⟩
  | _, _, _, .cons (d := d) (ds := ds) h hs, r, hz => by
    cases r with
    | cons r1 r2 =>
      obtain ⟨as, q1, q2⟩ := h.reads I r1
      obtain ⟨b1, hb1, k1⟩ := ReprK.of_reads (prog := X.prog) (w := X.w) q1 h.shd.sh q2 (hz _ (by simp only [PyData.shownAll]; exact List.mem_cons_self ..))
      obtain ⟨as2, b2, q3, hb2, k2⟩ := SvAll.reads I hs r2 (fun t ht => hz t (by simp only [PyData.shownAll]; exact List.mem_cons_of_mem _ ht))
      refine ⟨_, b1 ++ b2, .cons q1 q3, ?_, ?_⟩
      · intro b hm
        simp only [PyData.depthAll]
        rcases List.mem_append.mp hm with hm | hm
        · obtain ⟨d', as', r', hd'⟩ := hb1 b hm
          exact ⟨d', as', r', Nat.le_trans hd' (Nat.le_max_left _ _)⟩
        · obtain ⟨d', as', r', hd'⟩ := hb2 b hm
          exact ⟨d', as', r', Nat.le_trans hd' (Nat.le_max_right _ _)⟩
      · simp only [PyData.depthAll, PyData.shownAll]
        exact .cons ((k1.more fun b hb => List.mem_append_left _ hb).level_le (Nat.le_max_left _ _)) (k2.more_le (fun b hb => List.mem_append_right _ hb) (Nat.le_max_right _ _))
end
def rReprT : List V → Hp → VK → Prop := fun xs H Q => ∃ x d, xs = [x] ∧ Th H x d ∧ Q (.str d.shown) H
theorem call_repr_T {X : Cx} (hg : X.A.guards = some []) (hu : X.A.units + 64 < cLine) : CallR X (.builtin "repr") rReprT := by
  intro pins s σ H xs us Q I r h
  obtain ⟨x, d, rfl, h, q⟩ := h
  obtain ⟨u, rfl, ru⟩ := vals1 r
  have sh := h.shd
  have hz := sh.short (by decide)
  have hdp := sh.dp
  have viaR : ∀ {a : Addr} {as : List Addr}, Reads s.heap (.ref a) d as → (d.hasDict = true → sysModules ∉ as) → u = .ref a → wpAny (model X.prog X.w) X.A (call (.builtin "repr") [u]) (fun v s' => ∃ x' H', Inv X pins σ H' s' ∧ RelV x' v ∧ Q x' H') X.xe s := fun rd hs e => by
    subst e
    exact repr_of_reads' rd sh.sh hs hg (by omega) (fun _ _ e => e) (fun h' v tk hk => ⟨.str d.shown, H, I.kept hk, ⟨_, rfl⟩, q⟩) hz
  cases h with
  | sv h =>
    cases h with
    | non =>
      cases ru
      exact PySem.P.repr_of_none ⟨.str _, H, I.tok _, ⟨_, rfl⟩, by simpa only [PyData.shown] using q⟩
    | bl b =>
      cases ru
      exact PySem.P.repr_of_bool ⟨.str _, H, I.tok _, ⟨_, rfl⟩, by simpa only [PyData.shown] using q⟩
    | int i h =>
      obtain ⟨t, rfl⟩ := ru
      exact PySem.P.repr_of_int (by simpa [PyData.showable] using sh.sh) ⟨.str _, H, I.tok _, ⟨_, rfl⟩, by simpa only [PyData.shown] using q⟩
    | one =>
      obtain ⟨t, rfl⟩ := ru
      exact PySem.P.repr_of_str ⟨.str _, H, I.tok _, ⟨_, rfl⟩, by simpa only [PyData.shown] using q⟩ (by simpa only [PyData.shown] using hz)
    | lst e h hl =>
      cases ru
      obtain ⟨as, r1, r2⟩ := (Sv.lst e h hl).reads I (u := .ref _) rfl
      exact viaR r1 r2 rfl
    | tup e h hl =>
      cases ru
      obtain ⟨as, r1, r2⟩ := (Sv.tup e h hl).reads I (u := .ref _) rfl
      exact viaR r1 r2 rfl
    | dct e =>
      cases ru
      obtain ⟨as, r1, r2⟩ := (Sv.dct e).reads I (u := .ref _) rfl
      exact viaR r1 r2 rfl
  | @row a ys ds e h hl =>
    cases ru
    obtain ⟨its, rv, ⟨o, n, ho, hc, _, hd⟩, _⟩ := I.list (SqL.of e)
    have hz' : (listText (PyData.shownAll ds)).length ≤ sizeLine := by simpa only [PyData.shown] using hz
    obtain ⟨as, bs, hr, hb, hk⟩ := h.reads I rv (fun t ht => Nat.le_trans (listText_mem_le ht) hz')
    have rd : Reads s.heap (.ref a) (.list ds) _ := Reads.list ho hc hd hr
    have hna : a ∉ bs := not_mem_of_deeper rd (by simp only [PyData.depth]; omega) hb
    simp only [PyData.depth] at hdp
    simp only [PyData.shown] at q
    refine call_repr_slot (T := "list") (idr := "list.__repr__") (by omega) ⟨o, ho, hc⟩ F.slot_list_repr.toG ?_
    have fin : ∀ (h' : Heap) (t : Tok) (tk : Nat), (∀ b o, s.heap.get? b = some o → h'.get? b = some o) → ∃ x t, (Value.str (listText (PyData.shownAll ds)) t) = .str x t ∧ True := fun _ t _ _ => ⟨_, t, rfl, trivial⟩
    cases its with
    | nil =>
      have hl0 := rv.length
      cases hr
      simp only [PyData.shownAll, listText_nil] at q
      exact call_list_repr_empty ⟨o, ho, hc⟩ ho hd ⟨_, _, rfl, .str _, H, I.tok _, ⟨_, rfl⟩, q⟩
    | cons y l =>
      exact call_list_reprK ho hc hd hna (by simpa using hk.length_eq) (fun i y e => hk.item i y (by simpa using e)) hg (fun b _ => Clear.nil b) (by show X.A.units + 1 + _ < cLine; omega) (fun _ _ e => e) (fun h' t tk hk' => ⟨_, _, rfl, .str _, H, I.kept hk', ⟨_, rfl⟩, q⟩) hz'
end Lc

namespace Lc
open PySem PySem.Spec PyProof.Rows L2
open PySem.Builtin PySem.Builtin.Str
/-! texts: repeated, filled up on the right by a sign, as a list -/
def repS (a : Str) (n : Nat) : Str := ⟨(List.replicate n a.cps).foldl (· ++ ·) #[]⟩
theorem foldl_app : ∀ (l : List (Array Nat)) (b : Array Nat), (l.foldl (· ++ ·) b).toList = b.toList ++ (l.map Array.toList).flatten
  | [], b => by simp
  | x :: l, b => by
    rw [List.foldl_cons, foldl_app l (b ++ x)]
    simp
theorem repS_list (a : Str) (n : Nat) : (repS a n).cps.toList = (List.replicate n a.cps.toList).flatten := by
  unfold repS
  show ((List.replicate n a.cps).foldl (· ++ ·) #[]).toList = _
  rw [foldl_app, List.map_replicate]
  rfl
theorem str_ext {a b : Str} (h : a.cps.toList = b.cps.toList) : a = b := by
  obtain ⟨a⟩ := a
  obtain ⟨b⟩ := b
  exact congrArg Str.mk (Array.toList_inj.mp h)
theorem str_len (a : Str) : a.length = a.cps.toList.length := rfl
theorem repS_len (a : Str) (n : Nat) : (repS a n).length = n * a.length := by
  rw [str_len, repS_list, List.length_flatten, List.map_replicate, str_len]
  simp
theorem repS_one (a : Str) : repS a 1 = a := str_ext (by rw [repS_list]; simp)
theorem repS_nil {a : Str} (h : a.length = 0) (n : Nat) : repS a n = a := str_ext (by
  have e : a.cps.toList = [] := List.length_eq_zero_iff.mp h
  rw [repS_list, e]
  simp)
/-- text * int -/
def rRepS : R2 := fun x y H Q => ∃ (a : Str) (k : Int), x = .str a ∧ y = .int k ∧ -1000 ≤ k ∧ k ≤ 1000 ∧ a.length ≤ 1000 ∧ Q (.str (repS a k.toNat)) H
theorem op_rep_str {X : Cx} : OpR X (binaryOp .Mult) rRepS := by
  intro pins s σ H x y v u Q I rx ry h
  obtain ⟨a, k, rfl, rfl, k0, k1, la, q⟩ := h
  obtain ⟨t, rfl⟩ := rx
  obtain ⟨t', rfl⟩ := ry
  have hz : a.length * k.toNat ≤ 1000000 := Nat.le_trans (Nat.mul_le_mul la (show k.toNat ≤ 1000 by omega)) (by decide)
  have hs : (1000000 : Nat) ≤ sizeLine := by rw [sizeLine_eq]; decide
  refine PySem.P.mul_str ?_ (fun h1 _ => ?_) (fun _ _ => ?_) ?_
  · have e1 : ¬ k < -(2 ^ 63 : Int) := by omega
    have e2 : ¬ k ≥ 2 ^ 63 := by omega
    rw [decide_eq_false e1, decide_eq_false e2]; rfl
  · have : (2 ^ 63 - 1) / (1000 : Int) ≤ (2 ^ 63 - 1) / k := by
      rw [Int.le_ediv_iff_mul_le (by omega)]
      have : ((2 ^ 63 - 1) / (1000 : Int)) = 9223372036854775 := by decide
      rw [this]
      omega
    have e : ((2 ^ 63 - 1) / (1000 : Int)) = 9223372036854775 := by decide
    omega
  · unfold tooLong
    exact decide_eq_false (by omega)
  · by_cases h1 : k < 1
    · rw [if_pos h1]
      refine ⟨by decide, .str _, H, I.tok _, ⟨_, rfl⟩, ?_⟩
      have : k.toNat = 0 := by omega
      rw [this] at q
      exact q
    · rw [if_neg h1]
      by_cases h2 : (k == 1 || a.length == 0) = true
      · rw [if_pos h2]
        have e : repS a k.toNat = a := by
          rw [Bool.or_eq_true, beq_iff_eq, beq_iff_eq] at h2
          rcases h2 with rfl | h2
          · exact repS_one a
          · exact repS_nil h2 _
        rw [e] at q
        exact ⟨.str a, H, I.tok _, ⟨_, rfl⟩, q⟩
      · rw [if_neg h2]
        refine ⟨?_, .str _, H, I.tok _, ⟨_, rfl⟩, q⟩
        show (repS a k.toNat).length ≤ sizeLine
        rw [repS_len, Nat.mul_comm]
        omega
/-- filled up on the right -/
def padS (a : Str) (n : Nat) (c : Nat) : Str := ⟨a.cps ++ Array.replicate (n - a.length) c⟩
theorem padS_list (a : Str) (n c : Nat) : (padS a n c).cps.toList = a.cps.toList ++ List.replicate (n - a.length) c := by
  show (a.cps ++ Array.replicate (n - a.length) c).toList = _
  rw [Array.toList_append, Array.toList_replicate]
theorem gives_ljust2 (x : Str) (i : Int) (c : Nat) (t u v : Tok) (hr : (decide (i < -(2 ^ 63 : Int)) || decide (i ≥ 2 ^ 63)) = false) (hl : tooLong i.toNat = false) :
    Gives (Builtin.«str.ljust» ⟨[.str x t, .int i u, .str ⟨#[c]⟩ v], []⟩) (if i ≤ x.length then .val (.str x t) else .str (padded x 0 (i.toNat - x.length) c)) := by
  show Gives (do
             let width ← asSsize s!"str.ljust" (.int i u)
             if width ≤ x.length then (do rule s!"str.ljust.long-enough"; ret (.str x t)) else
             if tooLong width.toNat = true then unsupported s!"str.ljust:memory" else retStr (padded x 0 (width.toNat - x.length) c)) _
  rw [asSsize_int _ _ _ hr]
  show Gives (if i ≤ x.length then (do rule s!"str.ljust.long-enough"; ret (.str x t)) else if tooLong i.toNat = true then unsupported s!"str.ljust:memory" else retStr (padded x 0 (i.toNat - x.length) c)) _
  rw [hl]
  by_cases h : i ≤ (x.length : Int)
  · rw [if_pos h, if_pos h]; exact .rule (.of_eq rfl)
  · rw [if_neg h, if_neg h]; exact .of_eq rfl
theorem mt_ljust2 {X : Cx} : MtR X "str.ljust" (fun x xs H Q => ∃ (a : Str) (n c : Nat), x = .str a ∧ xs = [.int (n : Nat), .str ⟨#[c]⟩] ∧ n ≤ 100000 ∧ Q (.str (padS a n c)) H) := by
  intro pins s σ H x xs v us Q I rx rs h
  obtain ⟨a, n, c, rfl, rfl, hn, q⟩ := h
  obtain ⟨t, rfl⟩ := rx
  cases rs with
  | cons r1 rs =>
    cases rs with
    | cons r2 rs =>
      cases rs
      obtain ⟨u, rfl⟩ := r1
      obtain ⟨z, rfl⟩ := r2
      have hs : (100000 : Nat) ≤ sizeLine := by rw [sizeLine_eq]; decide
      refine call_gives PySem.F.slot_str_ljust (typeIs_str _ _ _) PySem.F.entry_str_ljust (PySem.F.args_str_ljust_3 _ _ _) (gives_ljust2 a n c t u z ?_ ?_) ?_
      · have e1 : ¬ (n : Int) < -(2 ^ 63 : Int) := by omega
        have e2 : ¬ (n : Int) ≥ 2 ^ 63 := by omega
        rw [decide_eq_false e1, decide_eq_false e2]; rfl
      · unfold tooLong
        exact decide_eq_false (by omega)
      · by_cases h1 : (n : Int) ≤ (a.length : Int)
        · rw [if_pos h1]
          have e : padS a n c = a := str_ext (by
            rw [padS_list, show n - a.length = 0 by omega]
            simp)
          rw [e] at q
          exact ⟨.str a, H, I.tok _, ⟨_, rfl⟩, q⟩
        · rw [if_neg h1]
          have e : padded a 0 ((n : Int).toNat - a.length) c = padS a n c := str_ext (by
            rw [padS_list]
            show (Array.replicate 0 c ++ a.cps ++ Array.replicate ((n : Int).toNat - a.length) c).toList = _
            simp)
          rw [e]
          refine ⟨?_, .str _, H, I.tok _, ⟨_, rfl⟩, q⟩
          show (padS a n c).length ≤ sizeLine
          rw [str_len, padS_list, List.length_append, List.length_replicate, ← str_len]
          omega
/-- list(text) -/
def signs (x : Str) : List V := x.cps.toList.map fun c => .str ⟨#[c]⟩
theorem call_list_S {X : Cx} (hc : X.calm = true) : CallR X (.type "list") (fun xs H Q => ∃ x : Str, xs = [.str x] ∧ x.length ≤ 10000 ∧ ∀ l, H l = none → Q (.ref l) (upd H l (.lst (signs x)))) := by
  intro pins s σ H xs us Q I r h
  obtain ⟨x, rfl, hz, q⟩ := h
  obtain ⟨u, rfl, t, rfl⟩ := vals1 r
  have hs : (10000 : Nat) ≤ sizeLine := by rw [sizeLine_eq]; decide
  have hz2 : x.cps.size ≤ 10000 := hz
  refine PySem.call_list_str (I.ok.hd hc) x t (fun h' tk acc c' kp e hi => ?_) (by omega)
  have rv : Vals (signs x) acc.toList := by
    have : ∀ (l : List Nat) (m : List Value), m.length = l.length → (∀ (j : Nat) (v : Value), m[j]? = some v → ∃ c u, l[j]? = some c ∧ v = Value.str ⟨#[c]⟩ u) → Vals (l.map fun c => V.str ⟨#[c]⟩) m := by
      intro l
      induction l with
      | nil => intro m hm _; cases m with
        | nil => exact .nil
        | cons _ _ => cases hm
      | cons c l ih =>
        intro m hm hj
        cases m with
        | nil => cases hm
        | cons y m =>
          obtain ⟨c', u, e1, rfl⟩ := hj 0 y rfl
          cases e1
          exact .cons ⟨u, rfl⟩ (ih m (by simpa using hm) fun j v hv => hj (j + 1) v hv)
    refine this _ _ (by rw [Array.length_toList, Array.length_toList]; exact hi.1) fun j v hv => ?_
    rw [Array.getElem?_toList] at hv
    obtain ⟨c, u, e1, e2⟩ := hi.2 j v hv
    exact ⟨c, u, by rw [Array.getElem?_toList]; exact e1, e2⟩
  exact ⟨.ref s.heap.objs.size, _, I.laid (t' := tk) kp (Nat.le_refl _) (show ObjOk X.prog X.w _ h' _ (.lst (signs x)) from ⟨by unfold signs; rw [List.length_map, Array.length_toList]; omega, acc.toList, c', rv, e⟩), rfl, q _ (I.hok.fresh (Nat.le_refl _))⟩
abbrev rAddS : R2 := fun x y H Q => ∃ i j, x = .str i ∧ y = .str j ∧ i.length + j.length ≤ sizeLine ∧ Q (.str (i ++ j)) H
abbrev rLenS : List V → Hp → VK → Prop := fun xs H Q => ∃ z, xs = [V.str z] ∧ z.length ≤ sizeLine ∧ Q (V.int (z.length : Nat)) H
abbrev rJoinS (K : PySem.W.Frag) : V → List V → Hp → VK → Prop := fun x xs H Q => ∃ a p, ∃ ys : List Str, x = V.str a ∧ xs = [V.ref p] ∧ (SqL K H p (ys.map V.str) ∨ SqT K H p (ys.map V.str)) ∧ (ys.map (·.length)).sum + ys.length * a.length ≤ 16777216 ∧ Q (V.str (Txt.join a ys)) H
abbrev rLjust : V → List V → Hp → VK → Prop := fun x xs H Q => ∃ (a : Str) (n c : Nat), x = .str a ∧ xs = [.int (n : Nat), .str ⟨#[c]⟩] ∧ n ≤ 100000 ∧ Q (.str (padS a n c)) H
end Lc

namespace Lc
open PySem PySem.Spec PyProof.Rows L2

/-! ### an own error class without __init__, as the top leaves it -/
structure ExT (K : PySem.W.Frag) (mg : Str → Option Value) (x : Str) (C : Addr) (mro : List Value) : Prop where
  g : mg x = some (.ref C)
  mr : (PySem.W.clsIn K C).map (·.mro) = some mro
  ex : PySem.W.excIn K C [.type "ValueError", .type "Exception", .type "BaseException", .type "object"] "ValueError.__new__" = true
  kp : PySem.W.keepIn K (.ref C) = true
  ty : PySem.W.typeIn K (.ref C) = some (.type "type")
  cc : ExcC K C
theorem cls_mr {K : PySem.W.Frag} {C : Addr} {c : Value} {d : Option Addr} {cd : ClassData} {sl : Array (Option Value)} {m : List Value} (l : K.lookup C = some ⟨c, d, .cls cd, sl⟩) (h : cd.mro = m) : (PySem.W.clsIn K C).map (·.mro) = some m := by
  unfold PySem.W.clsIn
  rw [l, ← h]; rfl
section
variable {K : PySem.W.Frag} {mg : Str → Option Value} {x y : Str} {C D : Addr} {m n : List Value}
theorem ExT.sub (T : ExT K mg x C m) (b : Value) (hm : m.isEmpty = false) : PySem.W.subIn K (.ref C) b = some (m.contains b) := by
  have e := T.mr
  show PySem.W.mroIn K C b = _
  unfold PySem.W.mroIn
  cases q : PySem.W.clsIn K C with
  | none => rw [q] at e; cases e
  | some cd =>
    rw [q] at e
    have e2 : cd.mro = m := Option.some.inj e
    show (if cd.mro.isEmpty = true then none else some (cd.mro.contains b)) = _
    rw [e2, hm]; rfl
theorem ExT.isSome (T : ExT K mg x C m) : (PySem.W.clsIn K C).isSome = true := by
  have e := T.mr
  cases q : PySem.W.clsIn K C with
  | none => rw [q] at e; cases e
  | some cd => rfl
theorem ExT.kitC (T : ExT K mg x C m) (S : ExT K mg y D n) (hm : m.isEmpty = false) (hc : m.contains (.ref C) = true) : PySem.W.kitOne K (.ref C) (.ref D) = some (m.contains (.ref D)) := by
  unfold PySem.W.kitOne
  by_cases h : (Value.ref C == Value.ref D) = true
  · rw [if_pos h]
    have : (Value.ref C) = Value.ref D := beq_iff_eq.mp h
    rw [← this, hc]
  · rw [if_neg h]
    show (if ((PySem.W.clsIn K D).isSome && PySem.W.typeIn K (.ref D) == some (.type "type")) = true then _ else _) = _
    rw [S.isSome, S.ty, if_pos (by rfl)]
    exact T.sub _ hm
theorem ExT.exm (T : ExT K mg x C m) (S : ExT K mg y D n) (hm : m.isEmpty = false) : PySem.W.exmOne K (.ref C) (.ref D) = some (m.contains (.ref D)) := by
  unfold PySem.W.exmOne
  rw [S.cc.hs, if_pos (by rfl)]
  show (if ((PySem.W.clsIn K D).isSome && PySem.W.typeIn K (.ref D) == some (.type "type")) = true then _ else _) = _
  rw [S.isSome, S.ty, if_pos (by rfl)]
  exact T.sub _ hm
theorem ExT.kitT (T : ExT K mg x C m) (b : String) (hk : PySem.W.kitMeta b = true) (hm : m.isEmpty = false) : PySem.W.kitOne K (.ref C) (.type b) = some (m.contains (.type b)) := by
  unfold PySem.W.kitOne
  rw [if_neg (by intro h; have := beq_iff_eq.mp h; cases this)]
  show (if PySem.W.kitMeta b = true then _ else _) = _
  rw [if_pos hk]
  exact T.sub _ hm
end

/-! ### statements that raise nothing amid a def that raises -/
theorem ps_nox {X : Cx} {st : Stmt} {t : TS} (h : PS X.nox st t) : PS X st t := ⟨fun pins s σ H D I hw =>
  wpAny_mono (h.run pins s σ H D (I.wish _) hw) (fun _ _ q => q.unwish) fun _ _ z => False.elim z⟩

/-! ### a def that is handed the error which its caller's suite has caught -/
structure FnE (P : Program) (w : World) (K : PySem.W.Frag) (mg : Str → Option Value) (base : Heap) (k : Nat) (f : Addr) (fd : FuncData) (x : Str) (D : Addr) (sp : Hp → VK → Prop) : Prop where
  go : ∀ (A : Around) (outer : List Env) (s : Shared) (H : Hp) (a : Addr) (oe : Obj) (Q : VK), Room k A → Env0 P w K mg base A outer s H →
    s.heap.get? a = some oe → Zc (.ref D) none oe → (∃ vs, oe.data = .fields vs) → H a = none → a ∉ frs outer → BindsTo s fd ⟨[.ref a], []⟩ [(x, .ref a)] → sp H Q →
    codeAny (model P w) (A.mark (some (.ref a))) (.call (.ref f) ⟨[.ref a], []⟩) (CR CX0 outer P w H s Q E0) s
section
variable {P : Program} {w : World} {K : PySem.W.Frag} {mg : Str → Option Value} {base : Heap}
theorem funE {x qual p : Str} {st : Stmt} {f D : Addr} {fd : FuncData} {N : List Str} {k : Nat} {sp : Hp → VK → Prop} (F : Fun K x qual st f fd) (S : FnScope N [p] (defScope st))
    (hbody : ∀ (cdv : Value) (A : Around) (outer : List Env) (s : Shared) (H : Hp) (a : Addr) (oe : Obj) (Q : VK), Zc (.ref D) none oe → (∃ vs, oe.data = .fields vs) →
      Room k (A.deeper (envOfC qual (defScope st) s.heap.objs.size f cdv)) → sp H Q →
      ∃ t, PSs ((cxOf CX0 P w K mg base N qual (defScope st) f cdv A outer s H E0).suite a [(a, oe)]) (defBody st) t ∧ t { nx := fun _ H' => Q .non H', rt := Q } (start N [.ref a]) H) :
    FnE P w K mg base (k + 1) f fd p D sp := by
  obtain ⟨oc, od, kV, doc, pm, an, cdv, ct, osl, rfl, lk, hcd⟩ := F.ex
  refine ⟨fun A outer s H a oe Q hr e0 ha hz hf na nf hb hsp => ?_⟩
  have up : ∀ b o, base.get? b = some o → s.heap.get? b = some o := fun b o e => (e0.bs b o e).1
  have KX : K.In s.heap := e0.mod.kin.keeps up
  have lim : s.heap.NoLimit := e0.mod.nolimit.keeps up
  have dd : (A.mark (some (.ref a))).depth < recursionLimit := hr.depth
  refine codeAny_call_function dd (KX _ _ lk) rfl S.co S.gen rfl
    (PySem.W.codeRec_of KX hcd) (hb _ _ _ _ ?_)
  refine wpAny_newFunctionEnv_cells S.kind (fun y hy => ?_) fun env he s1 x => ?_
  · have hm : y = (p, .ref a) := List.mem_singleton.mp hy
    rw [hm]
    cases S.par p List.mem_cons_self with
    | inl q => exact .inl q
    | inr q => exact .inr ⟨q, PySem.W.cellsFrom_some _ _ _ (.inl q)⟩
  subst he
  refine ⟨lim.keeps x.toInCall.keep, codeAny_func ?_⟩
  obtain ⟨t, ht, hq⟩ := hbody cdv A outer s H a oe Q hz hf (hr.deeper _) hsp
  have I0 := inv_start (CX := CX0) (P := P) (w := w) (qual := qual) (E := E0) (us := [.ref a]) (vs := [.ref a]) S hr.hd e0 rfl (.cons rfl .nil) x
  obtain ⟨vs, hv⟩ := hf
  have I := I0.suite (x.toInCall.keep a oe ha) hv na (Nat.ne_of_lt (Heap.lt_size ha)) nf
  refine wpAny_mono (ht.run [] s1 (start N [.ref a]) H _ I hq) (fun fl s' hs => ?_) (fun e s' hs => hs.elim)
  cases fl with
  | ret u => obtain ⟨v, σ', H', J, rv, q⟩ := hs; exact ⟨v, H', J.os, J.bare, J.base, J.hok, rv, q⟩
  | next => obtain ⟨σ', H', J, q⟩ := hs; exact ⟨V.non, H', J.os, J.bare, J.base, J.hok, rfl, q⟩
  | brk => obtain ⟨_, _, _, q⟩ := hs; exact q.elim
  | cont => obtain ⟨_, _, _, q⟩ := hs; exact q.elim
end
section
variable {X : Cx} {k : Nat} {f a : Addr} {fd : FuncData} {p x : Str} {oe : Obj} {pn : List (Addr × Obj)} {cls : Value} {d : Option Addr} {e : Expr} {te : TE} {ps pos : Pos} {G : Addr → Prop} {sp : Addr → Hp → VK → Prop}
/-- f(e) in the suite, e the caught error -/
def tCallE (cls : Value) (d : Option Addr) (a : Addr) (G : Addr → Prop) (sp : Addr → Hp → VK → Prop) (te : TE) : TE := fun σ H Q => te σ H fun z H1 => ∃ v, [z] = [v] ∧ v = .ref a ∧ ∃ D, cls = .ref D ∧ d = none ∧ G D ∧ sp D H1 Q
theorem pe_callE (F : ∀ D, G D → FnE X.prog X.w X.K X.mg X.base k f fd p D (sp D)) (hr : Room k X.A) (hg : Gl X x) (hm : X.mg x = some (.ref f)) (hk : PySem.W.keepIn X.K (.ref f) = true) (hb : Binds X.K fd [p] [])
    (hs : X.stack = X.env :: X.outer) (hfr : X.env.frame = some X.env.locals) (hz : Zc cls d oe) (hf : ∃ vs, oe.data = .fields vs) (he : PE (X.suite a ((a, oe) :: pn)) e te)
    (hdb : (x == ("__debug__" : Str)) = false := by decide) (he2 : starEach (e :: []) X.env = (false, eval e X.env) :: starEach [] X.env := by rfl) (hpl : (backTo pos (starEach [] X.env)).any (·.1) = false := by rfl) :
    PE (X.suite a ((a, oe) :: pn)) (.Call (.Name x ps) [e] [] pos) (tCallE cls d a G sp te) := by
  refine ⟨fun pins s σ H Q I h => wpAny_Call_Name_kw (ld_glob (X := X.suite a ((a, oe) :: pn)) I hg hm ?_ hdb)⟩
  have ha : PA (X.suite a ((a, oe) :: pn)) [e] (tCons te tNil) := pa_cons he pa_nil he2
  refine PySem.W.callWith_K (h₀ := X.base) I.ok.mod.kin hk (thn (ha.run pos pins s σ H (fun vs H1 => ∃ v, vs = [v] ∧ v = .ref a ∧ ∃ D, cls = .ref D ∧ d = none ∧ G D ∧ sp D H1 Q) I ?_) fun us s1 ⟨vs, H1, I1, r, q⟩ => ⟨I1.kIn, ?_⟩) he2 hpl
  · exact h
  · obtain ⟨v, rfl, rfl, D, rfl, rfl, hG, q⟩ := q
    obtain ⟨u, rfl, ru⟩ := vals1 r
    obtain rfl : u = Value.ref a := ru
    obtain ⟨hget, hn, hnl, hnf, _⟩ := I1.pin (a, oe) (List.mem_append.mpr (.inl List.mem_cons_self))
    have b := hb s1 [.ref a] I1.kIn rfl
    have e0 : Env0 X.prog X.w X.K X.mg X.base X.A X.stack s1 H1 := by
      have z := I1.env0
      exact ⟨z.frames, z.mod, z.bs, z.bsz, z.funs, z.frf, z.hok, z.bare⟩
    have nst : a ∉ frs X.stack := fun hm => by
      rw [hs] at hm
      obtain ⟨en, he3, q3⟩ := List.mem_filterMap.mp hm
      rcases List.mem_cons.mp he3 with z | z
      · rw [z, hfr] at q3
        exact hnl (Option.some.inj q3).symm
      · exact hnf (List.mem_filterMap.mpr ⟨en, z, q3⟩)
    refine wpAny_call (codeAny_mono ((F D hG).go X.A X.stack s1 H1 a oe Q hr e0 hget hz hf hn nst b q) fun r s' hq => ?_)
    cases r with
    | error e => exact hq.elim
    | ok fl => cases fl with
      | ret u => exact I1.after hq
      | next => exact hq.elim
      | brk => exact hq.elim
      | cont => exact hq.elim
end
/-- what a callee may let out leaves a def that lets it out -/
theorem passX {X : Cx} {E : XK} (tk : Takes X (fun cls d _ H => E cls d H)) : Passes (L2.CX X.prog X.w) X E := passes_call tk fun _ _ _ _ h => h
/-! ### isinstance of an error object that is not raised -/
def rIsO (K : PySem.W.Frag) : List V → Hp → VK → Prop := fun xs H Q => ∃ (a D : Addr) (c : V) (cv : Value) (b : Bool), xs = [.ref a, c] ∧ H a = some (ExO (.ref D) a) ∧ ExcC K D ∧ (∀ u, RelV c u → u = cv) ∧ PySem.W.kitOne K (.ref D) cv = some b ∧ Q (.bl b) H
theorem call_isO {X : Cx} : CallR X (.builtin "isinstance") (rIsO X.K) := by
  intro pins s σ H xs us Q I r h
  obtain ⟨a, D, c, cv, b, rfl, eH, C, hcv, e, q⟩ := h
  cases r with
  | cons rx rr =>
    cases rr with
    | cons rt rr =>
      cases rr
      cases rx
      have ec := hcv _ rt
      subst ec
      obtain ⟨⟨oe, vs, hget, hz, hv, _⟩, _, _⟩ := I.hok a _ eH
      have J : PySem.W.InstAt s.heap a oe D none := by
        obtain ⟨oc, od, oda, osl⟩ := oe
        obtain ⟨h1, h2⟩ := hz
        dsimp only at h1 h2 hv
        subst h1 h2 hv
        exact ⟨hget, rfl, rfl, trivial⟩
      exact PySem.W.kia_one (PySem.W.handS_kitx_exc C.hg C.hk C.hs C.hd C.ha C.hn C.ht C.hm) I.kIn J e (fun z => nomatch z) fun tk => ⟨.bl b, H, I.kept (t' := tk) fun _ _ z => z, rfl, q⟩
/-! ### fifteen classes over one -/
abbrev veT : List Value := [.type "ValueError", .type "Exception", .type "BaseException", .type "object"]
/-- the classes cs, all of them directly under B -/
structure ExTs (K : PySem.W.Frag) (mg : Str → Option Value) (cs : List Addr) (B : Addr) : Prop where
  nd : (cs ++ [B]).Nodup
  one : ∀ D ∈ cs, ∃ x, ExT K mg x D (.ref D :: .ref B :: veT)
  bas : ∃ x, ExT K mg x B (.ref B :: veT)
section
variable {K : PySem.W.Frag} {mg : Str → Option Value} {cs : List Addr} {B : Addr}
theorem ve_no (C : Addr) : veT.contains (.ref C) = false := by
  simp only [List.contains_cons, List.contains_nil, Bool.or_false]
  rfl
theorem val_beq (C D : Addr) : (Value.ref C == Value.ref D) = decide (C = D) := by
  by_cases h : C = D
  · rw [h, decide_eq_true rfl]; exact beq_self_eq_true _
  · rw [decide_eq_false h]; exact beq_eq_false_iff_ne.mpr fun z => h (Value.ref.inj z)
theorem ExTs.cc (T : ExTs K mg cs B) {j : Nat} (hj : j ≤ cs.length) : ExcC K ((cs ++ [B]).getD j 0) := by
  rcases Nat.lt_or_ge j cs.length with h | h
  · have e : (cs ++ [B]).getD j 0 = cs[j] := by rw [List.getD_eq_getElem?_getD, List.getElem?_append_left h, List.getElem?_eq_getElem h]; rfl
    obtain ⟨x, t⟩ := T.one _ (List.getElem_mem h)
    rw [e]; exact t.cc
  · have e : (cs ++ [B]).getD j 0 = B := by
      have : j = cs.length := by omega
      subst this
      rw [List.getD_eq_getElem?_getD, List.getElem?_append_right (Nat.le_refl _), Nat.sub_self]; rfl
    obtain ⟨x, t⟩ := T.bas
    rw [e]; exact t.cc
theorem ExTs.ne (T : ExTs K mg cs B) {i j : Nat} (hi : i ≤ cs.length) (hj : j ≤ cs.length) : decide ((cs ++ [B]).getD j 0 = (cs ++ [B]).getD i 0) = decide (i = j) := by
  have li : i < (cs ++ [B]).length := by rw [List.length_append]; exact Nat.lt_succ_of_le hi
  have lj : j < (cs ++ [B]).length := by rw [List.length_append]; exact Nat.lt_succ_of_le hj
  have ei : (cs ++ [B]).getD i 0 = (cs ++ [B])[i] := by rw [List.getD_eq_getElem?_getD, List.getElem?_eq_getElem li]; rfl
  have ej : (cs ++ [B]).getD j 0 = (cs ++ [B])[j] := by rw [List.getD_eq_getElem?_getD, List.getElem?_eq_getElem lj]; rfl
  rw [ei, ej]
  by_cases h : i = j
  · subst h; rw [decide_eq_true rfl, decide_eq_true rfl]
  · rw [decide_eq_false h, decide_eq_false fun z => h ?_]
    rcases Nat.lt_trichotomy i j with q | q | q
    · exact absurd z.symm (List.pairwise_iff_getElem.mp T.nd i j li lj q)
    · exact q
    · exact absurd z (List.pairwise_iff_getElem.mp T.nd j i lj li q)
/-- isinstance(an error of the class j, the class i) -/
theorem ExTs.kit (T : ExTs K mg cs B) {i j : Nat} (hi : i < cs.length) (hj : j ≤ cs.length) : PySem.W.kitOne K (.ref ((cs ++ [B]).getD j 0)) (.ref ((cs ++ [B]).getD i 0)) = some (decide (i = j)) := by
  have gi : (cs ++ [B]).getD i 0 = cs[i] := by rw [List.getD_eq_getElem?_getD, List.getElem?_append_left hi, List.getElem?_eq_getElem hi]; rfl
  obtain ⟨y, s⟩ := T.one _ (List.getElem_mem hi)
  have gB : (cs ++ [B]).getD cs.length 0 = B := by rw [List.getD_eq_getElem?_getD, List.getElem?_append_right (Nat.le_refl _), Nat.sub_self]; rfl
  have nB : decide (cs[i] = B) = false := by
    have := T.ne (i := cs.length) (j := i) (Nat.le_refl _) (Nat.le_of_lt hi)
    rw [gi, gB] at this
    rw [this]
    exact decide_eq_false (by omega)
  have ne := T.ne (i := j) (j := i) hj (Nat.le_of_lt hi)
  rcases Nat.lt_or_ge j cs.length with h | h
  · have gj : (cs ++ [B]).getD j 0 = cs[j] := by rw [List.getD_eq_getElem?_getD, List.getElem?_append_left h, List.getElem?_eq_getElem h]; rfl
    obtain ⟨x, t⟩ := T.one _ (List.getElem_mem h)
    rw [gi, gj] at ne ⊢
    rw [t.kitC s rfl (by rw [List.contains_cons, val_beq, decide_eq_true rfl]; rfl), List.contains_cons, List.contains_cons, val_beq, val_beq, ve_no, nB, ne]
    simp [eq_comm]
  · have ej : j = cs.length := by omega
    obtain ⟨x, t⟩ := T.bas
    rw [gi, ej, gB, t.kitC s rfl (by rw [List.contains_cons, val_beq, decide_eq_true rfl]; rfl), List.contains_cons, val_beq, ve_no, nB]
    rw [decide_eq_false (show ¬ i = cs.length by omega)]; rfl
theorem ExTs.kitB (T : ExTs K mg cs B) {j : Nat} (hj : j ≤ cs.length) : PySem.W.kitOne K (.ref ((cs ++ [B]).getD j 0)) (.ref B) = some true := by
  obtain ⟨y, s⟩ := T.bas
  rcases Nat.lt_or_ge j cs.length with h | h
  · have gj : (cs ++ [B]).getD j 0 = cs[j] := by rw [List.getD_eq_getElem?_getD, List.getElem?_append_left h, List.getElem?_eq_getElem h]; rfl
    obtain ⟨x, t⟩ := T.one _ (List.getElem_mem h)
    rw [gj, t.kitC s rfl (by rw [List.contains_cons, val_beq, decide_eq_true rfl]; rfl), List.contains_cons, List.contains_cons, val_beq, val_beq, decide_eq_true (rfl : B = B)]
    simp
  · have ej : j = cs.length := by omega
    have gB : (cs ++ [B]).getD cs.length 0 = B := by rw [List.getD_eq_getElem?_getD, List.getElem?_append_right (Nat.le_refl _), Nat.sub_self]; rfl
    rw [ej, gB, s.kitC s rfl (by rw [List.contains_cons, val_beq, decide_eq_true rfl]; rfl), List.contains_cons, val_beq, decide_eq_true (rfl : B = B)]; rfl
theorem ExTs.kitV (T : ExTs K mg cs B) {j : Nat} (hj : j ≤ cs.length) : PySem.W.kitOne K (.ref ((cs ++ [B]).getD j 0)) (.type "ValueError") = some true := by
  rcases Nat.lt_or_ge j cs.length with h | h
  · have gj : (cs ++ [B]).getD j 0 = cs[j] := by rw [List.getD_eq_getElem?_getD, List.getElem?_append_left h, List.getElem?_eq_getElem h]; rfl
    obtain ⟨x, t⟩ := T.one _ (List.getElem_mem h)
    rw [gj, t.kitT "ValueError" (by decide +kernel) rfl]; rfl
  · have ej : j = cs.length := by omega
    obtain ⟨y, s⟩ := T.bas
    have gB : (cs ++ [B]).getD cs.length 0 = B := by rw [List.getD_eq_getElem?_getD, List.getElem?_append_right (Nat.le_refl _), Nat.sub_self]; rfl
    rw [ej, gB, s.kitT "ValueError" (by decide +kernel) rfl]; rfl
/-- except B: takes an error of the class j -/
theorem ExTs.exm (T : ExTs K mg cs B) {j : Nat} (hj : j < cs.length) : PySem.W.exmOne K (.ref ((cs ++ [B]).getD j 0)) (.ref B) = some true := by
  obtain ⟨y, s⟩ := T.bas
  have gj : (cs ++ [B]).getD j 0 = cs[j] := by rw [List.getD_eq_getElem?_getD, List.getElem?_append_left hj, List.getElem?_eq_getElem hj]; rfl
  obtain ⟨x, t⟩ := T.one _ (List.getElem_mem hj)
  rw [gj, t.exm s rfl, List.contains_cons, List.contains_cons, val_beq, val_beq, decide_eq_true (rfl : B = B)]
  simp
end
/-- xs[i], by values -/
theorem get_list {X : Cx} : PGet X (rIxL X.K) := by
  intro pins s σ H x y v u Q I rx ry h
  obtain ⟨p, xs, i, z, rfl, rfl, hq, he, q⟩ := h
  cases rx
  obtain ⟨t, rfl⟩ := ry
  obtain ⟨its, r, pl, hz⟩ := I.list hq
  obtain ⟨j, h1, h2, h3, h4, h5⟩ := atI_get he
  obtain ⟨w, ew, rw'⟩ := r.get h2
  have hl := r.length
  have hn := line63
  have fin : EP X pins σ Q w s := ⟨z, H, I, rw', q⟩
  by_cases h0 : 0 ≤ i
  · have hj : i.toNat = j := by
      rw [seqIndex_of h0 h5] at h1
      exact Option.some.inj h1
    exact wpAny_getItem_list pl.isList h0 (by omega) (by rw [hj]; simpa using ew) fin
  · have hj : (i + (its.toArray.size : Int)).toNat = j := by
      rw [seqIndex_neg (by omega) h4] at h1
      rw [List.size_toArray, ← hl]
      exact Option.some.inj h1
    exact wpAny_getItem_list_neg pl.isList (by omega) (by rw [List.size_toArray] <;> omega) (by omega) (by rw [hj]; simpa using ew) fin
/-! ### two promises of one def -/
theorem FnOk.both {P : Program} {w : World} {K : PySem.W.Frag} {mg : Str → Option Value} {base : Heap} {CX : CXT} {k : Nat} {f : Addr} {fd : FuncData} {ps : List Str} {sp1 sp2 : Sp} (F1 : FnOk P w K mg base CX k f fd ps sp1) (F2 : FnOk P w K mg base CX k f fd ps sp2) :
    FnOk P w K mg base CX k f fd ps (fun vs H Q E => sp1 vs H Q E ∨ sp2 vs H Q E) :=
  ⟨fun vs H Q E h => h.elim (F1.len vs H Q E) (F2.len vs H Q E), fun A o s H a us vs Q E hr e0 hb r h => h.elim (F1.run A o s H a us vs Q E hr e0 hb r) (F2.run A o s H a us vs Q E hr e0 hb r)⟩
/-- a def's promise where it raises nothing -/
theorem FnOk.ofX0 {P : Program} {w : World} {K : PySem.W.Frag} {mg : Str → Option Value} {base : Heap} {CX : CXT} {k : Nat} {f : Addr} {fd : FuncData} {ps : List Str} {sp : Sp} (F : FnOk P w K mg base CX0 k f fd ps sp) :
    FnOk P w K mg base CX k f fd ps sp :=
  ⟨F.len, fun A o s H a us vs Q E hr e0 hb r h => codeAny_mono (F.run A o s H a us vs Q E hr e0 hb r h) fun r' s' hq => by
    cases r' with
    | error e => exact hq.elim
    | ok fl => cases fl <;> exact hq⟩
end Lc

namespace Lc
open PySem PySem.Spec PyProof.Rows L2
/-! ### a, *b = a list -/
theorem star_two {prog : Program} {w : World} {A : Around} {EE : Value → Shared → Prop} {s0 : Shared} {p : Addr} {it : Array Value} {x : Value} {rest : List Value} {QQ : List Value → Shared → Prop}
    (hh : A.handled = none) (hp : s0.heap.IsList p it) (he : it.toList = x :: rest) (hz : it.size ≤ 16384)
    (k : ∀ g tk, Heap.ExtBut s0.heap.objs.size s0.heap g → QQ [x, .ref g.objs.size] { s0 with heap := g.push { cls := .type "list", data := .seq rest.toArray }, toks := tk }) :
    wpAny (model prog w) A (PySem.unpackItems (.ref p) 2 (some 1)) QQ EE s0 := by
  have szl : it.size = rest.length + 1 := by
    have := congrArg List.length he
    rw [Array.length_toList] at this
    exact this
  have np : p ≠ s0.heap.objs.size := by
    obtain ⟨ob, hob, _⟩ := hp
    exact Nat.ne_of_lt (Heap.lt_size hob)
  unfold PySem.unpackItems
  refine wpAny_bind ?_
  unfold PySem.notIterableAtAll
  refine wpAny_bind (wpAny_specialOf hp.typeIs slot_list_iter.lookup (wpAny_pure ?_))
  simp only [Bool.false_eq_true, if_false]
  refine wpAny_bind (wpAny_holding (wpAny_pyIter_list hp ?_))
  refine wpAny_bind (wpAny_holding (PySem.W.kun_draw np 1 0 _ _ ⟨_, Heap.get?_push_size _ rfl, rfl, rfl⟩ (hp.push _) (by omega) fun g1 it1 sb1 => ?_))
  have hp1 : g1.IsList p it := (hp.push _).extBut sb1.extBut np
  rw [Nat.zero_add] at it1
  obtain ⟨oi, hoi, _⟩ := id it1
  obtain ⟨ol, hol, _⟩ := id hp1
  rw [List.drop_zero]
  have e1 : it.toList.take 1 = [x] := by rw [he]; rfl
  rw [e1]
  have e0 : ¬ ([x].length < 1) := by simp
  rw [if_neg e0]
  refine wpAny_bind (wpAny_holding (PySem.W.kun_collect (s := { s0 with heap := g1 }) (T := "list_iterator") (.inr (.inr (.inl rfl))) (Walks.list (A := A.in1) hh s0.heap.objs.size p np it) (fun j u st => st.1.typeIs) (k := 1) (by omega) ⟨it1, hp1⟩ (Heap.lt_size hoi) (Heap.lt_size hol) (fun g2 tk hk => ?_) (by rw [sizeLine_eq]; omega)))
  have e2 : it.toList.drop 1 = rest := by rw [he]; rfl
  rw [e2]
  show wpAny _ _ (if rest.length < 0 then _ else _) _ _ _
  rw [if_neg (Nat.not_lt_zero _)]
  show wpAny _ _ (newList (rest.take (rest.length - 0)) >>= fun d => pure ([x] ++ [d] ++ rest.drop (rest.length - 0))) _ _ _
  rw [Nat.sub_zero, List.take_length, List.drop_length]
  have up : Heap.ExtBut s0.heap.objs.size s0.heap g2 := fun b o hb e => hk b o hb (sb1.extBut b o hb (Heap.get?_push_of_some _ e))
  exact wpAny_bind (PySem.wpAny_newList (wpAny_pure (k g2 tk up)) (by rw [sizeLine_eq]; omega))
def gStar2 (K : PySem.W.Frag) (t : TGs) : TG := fun v σ H Q => ∃ a x xs, v = .ref a ∧ SqL K H a (x :: xs) ∧ xs.length ≤ 16000 ∧ ∀ D, H D = none → t [x, .ref D] σ (upd H D (.lst xs)) Q
theorem pgs_star {X : Cx} {e : Expr} {sp : Pos} {es : List Expr} {t : TG} {u : TGs} (h1 : PG X e t) (h2 : PGs X es u)
    (hs : (assignEach (.Starred e sp :: es) X.env).map (·.2) = assign e X.env :: (assignEach es X.env).map (·.2) := by rfl) : PGs X (.Starred e sp :: es) (gCons t u) := by
  refine ⟨fun pins s σ H vs us Q I r h => ?_⟩
  obtain ⟨v, vr, e1, h⟩ := h
  subst e1
  cases r with
  | cons r rr =>
    rw [hs]
    exact assignInOrder_cons (thn (h1.run pins s σ H _ _ _ I r h) fun _ s1 ⟨σ1, H1, I1, q1⟩ => h2.run pins s1 σ1 H1 _ _ Q I1 rr q1)
theorem pg_star2 {X : Cx} {pos : Pos} {es : List Expr} {k : Nat} {t : TGs} (hc : X.calm = true) (h : PGs X es t) (hn : (assignEach es X.env).length = 2 := by rfl) (hst : (assignEach es X.env).findIdx? (·.1) = some 1 := by rfl) : PG X (.Tuple es k pos) (gStar2 X.K t) := by
  refine ⟨fun pins s σ H v u Q I r hw => ?_⟩
  obtain ⟨a, x, xs, e1, hq, hl, hw⟩ := hw
  subst e1
  cases r
  obtain ⟨its, rv, pl, hz⟩ := I.list hq
  obtain ⟨u0, us, rfl⟩ : ∃ u0 us, its = u0 :: us := by
    cases rv with
    | cons _ _ => exact ⟨_, _, rfl⟩
  rw [PyProof.Rows.assign_Tuple]
  refine wpAny_bind (wpAny_standAt ?_)
  unfold unpack
  rw [hn, hst]
  have lx : (x :: xs).length = (u0 :: us).length := rv.length
  refine wpAny_bind (wpAny_holding (star_two (I.ok.hd hc) pl.isList (x := u0) (rest := us) (by simp) (by simp at lx ⊢; omega) fun g tk hx => ?_))
  cases rv with
  | cons r0 rr =>
    have I1 : Inv X pins σ H { s with heap := g, toks := tk } := I.kept fun b o e => hx b o (Nat.ne_of_lt (Heap.lt_size e)) e
    have hf : H g.objs.size = none := I1.hok.fresh (Nat.le_refl _)
    have I2 : Inv X pins σ (upd H g.objs.size (.lst xs)) { s with heap := g.push { cls := .type "list", data := .seq us.toArray }, toks := tk } := by
      refine I1.laid (t' := tk) (fun b u e => Heap.get?_push_of_some _ e) (Nat.le_refl _) ?_
      exact ⟨by rw [sizeLine_eq]; omega, us, 0, rr, Heap.get?_push_size _ rfl⟩
    exact h.run pins _ σ _ _ _ Q I2 (.cons r0 (.cons (show RelV (.ref g.objs.size) (Value.ref g.objs.size) from rfl) .nil)) (hw _ hf)
abbrev rInSg : V → V → Hp → VK → Prop := fun x y H Q => ∃ (c : Nat) (z : Str), x = .str ⟨#[c]⟩ ∧ y = .str z ∧ Q (.bl (decide (c ∈ z.cps.toList))) H
abbrev rIntS : List V → Hp → VK → Prop := fun xs H Q => ∃ a n, xs = [.str a] ∧ PySem.intText? a = some n ∧ a.length ≤ 640 ∧ Q (.int n) H
abbrev rStrI : List V → Hp → VK → Prop := fun xs H Q => ∃ i, xs = [.int i] ∧ i.natAbs.log2 < 1920 ∧ Q (.str (toString i)) H
/-- a def that lets nothing out, of one that may raise -/
theorem FnOk.toX0 {P : Program} {w : World} {K : PySem.W.Frag} {mg : Str → Option Value} {base : Heap} {k : Nat} {f : Addr} {fd : FuncData} {ps : List Str} {sp : Sp} (F : FnOk P w K mg base (L2.CX P w) k f fd ps sp) :
    FnOk P w K mg base CX0 k f fd ps (fun vs H Q _ => sp vs H Q E0) :=
  ⟨fun vs H Q E h => F.len vs H Q E0 h, fun A o s H a us vs Q E hr e0 hb r h => codeAny_mono (F.run A o s H a us vs Q E0 hr e0 hb r h) fun r' s' hq => by
    cases r' with
    | error e =>
      obtain ⟨_, _, _, _, _, _, _, _, _, _, _, _, z⟩ := hq
      exact z.elim
    | ok fl => cases fl <;> exact hq⟩
/-! ### texts of starts and cards -/
open PySem.Spec in
abbrev SS (l : List Nat) : Str := ⟨l.toArray⟩
def numI (h : Int) : List Nat := TL.numL h.toNat
/-- the text -/
def fmtL (cs hs : List Int) : List Nat := TL.joinL [32] (cs.map numI) ++ (58 :: (hs.map fun h => 32 :: numI h).flatten)
theorem numI_free {h : Int} {s : Nat} (hs : s < 48 ∨ 57 < s) : s ∉ numI h := TL.numL_free hs
theorem numI_len {h : Int} (h1 : h ≤ 1000000000000000000000000000000) : (numI h).length ≤ 31 := by
  refine TL.numL_len (by decide) ?_
  have e : (10 : Nat) ^ 31 = 10000000000000000000000000000000 := by decide +kernel
  rw [e]; omega
open PySem in
theorem mem_joinL {c : Nat} : ∀ {ps : List (List Nat)}, c ∈ TL.joinL [32] ps → c = 32 ∨ ∃ p ∈ ps, c ∈ p
  | [], h => by cases h
  | [p], h => .inr ⟨p, List.mem_cons_self, h⟩
  | p :: q :: r, h => by
    have h' : c ∈ p ++ ([32] ++ TL.joinL [32] (q :: r)) := h
    rcases List.mem_append.mp h' with h2 | h1
    · exact .inr ⟨p, List.mem_cons_self, h2⟩
    rcases List.mem_append.mp h1 with h2 | h1
    · exact .inl (List.mem_singleton.mp h2)
    · rcases mem_joinL h1 with h2 | ⟨z, hz, hc⟩
      · exact .inl h2
      · exact .inr ⟨z, List.mem_cons_of_mem _ hz, hc⟩
theorem flat_join : ∀ ps : List (List Nat), (ps.map fun p => 32 :: p).flatten = TL.joinL [32] ([] :: ps)
  | [] => rfl
  | [p] => by
    show (32 :: p) ++ [] = [] ++ ([32] ++ p)
    simp
  | p :: q :: r => by
    have ih := flat_join (q :: r)
    have e : TL.joinL [32] ([] :: q :: r) = [] ++ ([32] ++ TL.joinL [32] (q :: r)) := rfl
    show (32 :: p) ++ ((q :: r).map fun p => 32 :: p).flatten = [] ++ ([32] ++ (p ++ ([32] ++ TL.joinL [32] (q :: r))))
    rw [ih, e]
    simp
/-- a number of at most 31 digits without leading zeros -/
def isNum (w : List Nat) : Bool := !(w == [] || decide (31 < w.length)) && (!(w.headD 0 == 48 && !(w == [48])) && w.all fun c => decide (c ∈ [48, 49, 50, 51, 52, 53, 54, 55, 56, 57]))
def valI (w : List Nat) : Int := ((NumText.digitsVal w : Nat) : Int)
theorem numL_head : ∀ n : Nat, (TL.numL n).headD 0 = 48 → n = 0 := fun n => by
  induction n using Nat.strongRecOn with
  | ind n ih =>
    intro h
    rcases Nat.lt_or_ge n 10 with h10 | h10
    · rw [TL.numL_lt h10] at h
      have h : 48 + n = 48 := h
      omega
    · rw [TL.numL_step h10] at h
      have hne := TL.numL_ne (n / 10)
      have e : (TL.numL (n / 10) ++ [48 + n % 10]).headD 0 = (TL.numL (n / 10)).headD 0 := by
        cases q : TL.numL (n / 10) with
        | nil => exact absurd q hne
        | cons a l => rfl
      rw [e] at h
      have := ih (n / 10) (by omega) h
      omega
theorem isNum_num {h : Int} (h0 : 0 ≤ h) (h1 : h ≤ 1000000000000000000000000000000) : isNum (numI h) = true := by
  unfold isNum
  have a1 : (numI h == []) = false := beq_eq_false_iff_ne.mpr (TL.numL_ne _)
  have a2 : decide (31 < (numI h).length) = false := decide_eq_false (by have := numI_len h1; omega)
  have a3 : ((numI h).headD 0 == 48 && !(numI h == [48])) = false := by
    by_cases hh : (numI h).headD 0 = 48
    · have hz : h.toNat = 0 := numL_head _ hh
      have : numI h = [48] := by unfold numI; rw [hz]; exact TL.numL_lt (by decide)
      rw [this]; rfl
    · rw [beq_eq_false_iff_ne.mpr hh]; rfl
  have a4 : (numI h).all (fun c => decide (c ∈ [48, 49, 50, 51, 52, 53, 54, 55, 56, 57])) = true := List.all_eq_true.mpr fun c hc => decide_eq_true (by
    have := TL.numL_digits _ c hc
    simp only [List.mem_cons, List.not_mem_nil, or_false]
    omega)
  rw [a1, a2, a3, a4]; rfl
theorem valI_num {h : Int} (h0 : 0 ≤ h) : valI (numI h) = h := by
  unfold valI numI
  rw [TL.numL_val]; omega
/-- the words of a text -/
def prsL (t : List Nat) : Option (List (List Nat) × List (List Nat)) := match TL.par [58] [] t with
  | none => none
  | some (h, r) => match TL.spl [32] 0 [] r with
    | [] => none
    | b :: os => if (b == [] && (TL.spl [32] 0 [] h ++ os).all isNum) = true then some (TL.spl [32] 0 [] h, os) else none
def okSt (cs : List Int) : Bool := decide ((1 : Int) ≤ cs.length ∧ (cs.length : Int) ≤ 30) && within 0 1000000000000000000000000000000 cs
def okCd (hs : List Int) : Bool := decide ((0 : Int) ≤ hs.length ∧ (hs.length : Int) ≤ 200) && within 1 1000000000000000000000000000000 hs
def prsT (t : List Nat) : Option (List Int × List Int) := match prsL t with
  | none => none
  | some (ws, os) => if (okSt (ws.map valI) && okCd (os.map valI)) = true then some (ws.map valI, os.map valI) else none
theorem prsL_fmt {cs hs : List Int} (hne : cs ≠ []) (h1 : ∀ x ∈ cs, 0 ≤ x ∧ x ≤ 1000000000000000000000000000000) (h2 : ∀ x ∈ hs, 0 ≤ x ∧ x ≤ 1000000000000000000000000000000) :
    prsL (fmtL cs hs) = some (cs.map numI, hs.map numI) := by
  unfold prsL fmtL
  have e58 : 58 ∉ TL.joinL [32] (cs.map numI) := fun h => by
    rcases mem_joinL h with h | ⟨p, hp, hc⟩
    · omega
    · obtain ⟨x, hx, rfl⟩ := List.mem_map.mp hp
      exact numI_free (by omega) hc
  have e1 : TL.par [58] [] (TL.joinL [32] (cs.map numI) ++ (58 :: (hs.map fun h => 32 :: numI h).flatten)) = some ([] ++ TL.joinL [32] (cs.map numI), (hs.map fun h => 32 :: numI h).flatten) :=
    TL.par_part1 (s := 58) (S := []) e58
  rw [e1]
  have e2 : (hs.map fun h => 32 :: numI h).flatten = TL.joinL [32] ([] :: hs.map numI) := by
    rw [← flat_join, List.map_map]; rfl
  have f1 : TL.spl [32] 0 [] (TL.joinL [32] ([] :: hs.map numI)) = [] :: hs.map numI := TL.spl_join (s := 32) (S := []) (by simp) fun p hp => by
    rcases List.mem_cons.mp hp with rfl | hp
    · simp
    · obtain ⟨x, hx, rfl⟩ := List.mem_map.mp hp
      exact numI_free (by omega)
  have f2 : TL.spl [32] 0 [] (TL.joinL [32] (cs.map numI)) = cs.map numI := TL.spl_join (s := 32) (S := []) (by simpa using hne) fun p hp => by
    obtain ⟨x, hx, rfl⟩ := List.mem_map.mp hp
    exact numI_free (by omega)
  show (match TL.spl [32] 0 [] ((hs.map fun h => 32 :: numI h).flatten) with | [] => none | b :: os => _) = _
  rw [e2, f1]
  show (if (([] : List Nat) == [] && (TL.spl [32] 0 [] ([] ++ TL.joinL [32] (cs.map numI)) ++ hs.map numI).all isNum) = true then some (TL.spl [32] 0 [] ([] ++ TL.joinL [32] (cs.map numI)), hs.map numI) else none) = _
  rw [List.nil_append, f2, if_pos]
  rw [show (([] : List Nat) == []) = true from rfl, Bool.true_and]
  refine List.all_eq_true.mpr fun w hw => ?_
  rcases List.mem_append.mp hw with hw | hw
  · obtain ⟨x, hx, rfl⟩ := List.mem_map.mp hw
    exact isNum_num (h1 x hx).1 (h1 x hx).2
  · obtain ⟨x, hx, rfl⟩ := List.mem_map.mp hw
    exact isNum_num (h2 x hx).1 (h2 x hx).2
theorem map_val {l : List Int} (h : ∀ x ∈ l, 0 ≤ x) : (l.map numI).map valI = l := by
  rw [List.map_map]
  refine (List.map_congr_left fun x hx => ?_).trans (List.map_id l)
  exact valI_num (h x hx)
theorem prsT_fmt {cs hs : List Int} (l1 : 1 ≤ cs.length ∧ cs.length ≤ 30) (l2 : hs.length ≤ 200) (h1 : ∀ x ∈ cs, 0 ≤ x ∧ x ≤ 1000000000000000000000000000000) (h2 : ∀ x ∈ hs, 1 ≤ x ∧ x ≤ 1000000000000000000000000000000) :
    prsT (fmtL cs hs) = some (cs, hs) := by
  unfold prsT
  rw [prsL_fmt (fun z => by rw [z] at l1; simp at l1) h1 (fun x hx => by have := h2 x hx; omega)]
  show (if (okSt ((cs.map numI).map valI) && okCd ((hs.map numI).map valI)) = true then _ else _) = _
  rw [map_val fun x hx => (h1 x hx).1, map_val fun x hx => by have := (h2 x hx).1; omega, if_pos]
  unfold okSt okCd
  rw [decide_eq_true (by omega), decide_eq_true (by omega)]
  have w1 : within 0 1000000000000000000000000000000 cs = true := List.all_eq_true.mpr fun x hx => decide_eq_true (h1 x hx)
  have w2 : within 1 1000000000000000000000000000000 hs = true := List.all_eq_true.mpr fun x hx => decide_eq_true (h2 x hx)
  rw [w1, w2]; rfl
theorem joinL_len : ∀ {ps : List (List Nat)} {k : Nat}, (∀ p ∈ ps, p.length ≤ k) → (TL.joinL [32] ps).length ≤ ps.length * (k + 1)
  | [], k, h => by simp [TL.joinL]
  | [p], k, h => by
    have := h p List.mem_cons_self
    show p.length ≤ 1 * (k + 1); omega
  | p :: q :: r, k, h => by
    have ih := joinL_len (ps := q :: r) fun z hz => h z (List.mem_cons_of_mem _ hz)
    have h0 := h p List.mem_cons_self
    show (p ++ ([32] ++ TL.joinL [32] (q :: r))).length ≤ ((q :: r).length + 1) * (k + 1)
    rw [List.length_append, List.length_append, Nat.succ_mul]
    simp only [List.length_singleton]
    omega
theorem fmt_len {cs hs : List Int} (l1 : cs.length ≤ 30) (l2 : hs.length ≤ 200) (h1 : ∀ x ∈ cs, x ≤ 1000000000000000000000000000000) (h2 : ∀ x ∈ hs, x ≤ 1000000000000000000000000000000) : (fmtL cs hs).length ≤ 8000 := by
  unfold fmtL
  have a := joinL_len (ps := cs.map numI) (k := 31) fun p hp => by
    obtain ⟨x, hx, rfl⟩ := List.mem_map.mp hp
    exact numI_len (h1 x hx)
  have b := joinL_len (ps := [] :: hs.map numI) (k := 31) fun p hp => by
    rcases List.mem_cons.mp hp with rfl | hp
    · decide
    · obtain ⟨x, hx, rfl⟩ := List.mem_map.mp hp
      exact numI_len (h2 x hx)
  have e2 : (hs.map fun h => 32 :: numI h).flatten = TL.joinL [32] ([] :: hs.map numI) := by
    rw [← flat_join, List.map_map]; rfl
  rw [List.length_append, List.length_cons, e2]
  rw [List.length_map] at a
  rw [List.length_cons, List.length_map] at b
  omega
theorem spl_len : ∀ (l acc : List Nat), (TL.spl [32] 0 acc l).length ≤ l.length + 1 ∧ ∀ p ∈ TL.spl [32] 0 acc l, p.length ≤ acc.length + l.length
  | [], acc => by rw [TL.spl_nil]; exact ⟨Nat.le_refl _, fun p hp => by rw [List.mem_singleton.mp hp]; exact Nat.le_refl _⟩
  | c :: r, acc => by
    cases h : TL.pre [32] (c :: r) with
    | true =>
      rw [TL.spl_hit h]
      obtain ⟨h1, h2⟩ := spl_len r []
      refine ⟨by show (TL.spl [32] 0 [] r).length + 1 ≤ r.length + 1 + 1; omega, fun p hp => ?_⟩
      rcases List.mem_cons.mp hp with rfl | hp
      · omega
      · have := h2 p hp
        simp only [List.length_nil, List.length_cons] at this ⊢
        omega
    | false =>
      rw [TL.spl_miss h]
      obtain ⟨h1, h2⟩ := spl_len r (acc ++ [c])
      refine ⟨by rw [List.length_cons]; omega, fun p hp => ?_⟩
      have := h2 p hp
      rw [List.length_append] at this
      simp only [List.length_cons, List.length_nil] at this ⊢
      omega
theorem spl_ne (l acc : List Nat) : TL.spl [32] 0 acc l ≠ [] := by
  cases l with
  | nil => rw [TL.spl_nil]; simp
  | cons c r =>
    cases h : TL.pre [32] (c :: r) with
    | true => rw [TL.spl_hit h]; simp
    | false =>
      rw [TL.spl_miss h]
      exact spl_ne r (acc ++ [c])
termination_by l.length
theorem str_num {n : Int} (h : 0 ≤ n) : (Str.ofString (toString n)) = SS (numI n) := by
  obtain ⟨k, rfl⟩ := Int.eq_ofNat_of_zero_le h
  show _ = SS (TL.numL ((k : Int)).toNat)
  rw [Int.toNat_natCast]
  exact SX.num_S k
theorem decSS (a b : List Nat) : decide (V.str (SS a) = V.str (SS b)) = decide (a = b) := decide_eq_decide.mpr ⟨fun h => SX.S_inj (V.str.inj h), fun h => by rw [h]⟩
theorem joinL_nil : ∀ ps : List (List Nat), TL.joinL [] ps = ps.flatten
  | [] => rfl
  | [p] => by simp [TL.joinL]
  | p :: q :: r => by
    show p ++ ([] ++ TL.joinL [] (q :: r)) = p ++ (q :: r).flatten
    rw [List.nil_append, joinL_nil (q :: r)]
theorem sum_len {ps : List (List Nat)} {k : Nat} (h : ∀ p ∈ ps, p.length ≤ k) : ((ps.map SS).map (·.length)).sum ≤ ps.length * k := by
  induction ps with
  | nil => simp
  | cons p l ih =>
    have := ih fun z hz => h z (List.mem_cons_of_mem _ hz)
    have h0 := h p List.mem_cons_self
    rw [List.map_cons, List.map_cons, List.sum_cons, List.length_cons, Nat.succ_mul]
    have e : (SS p).length = p.length := SX.S_len p
    show (SS p).length + _ ≤ _
    omega
theorem log_big {n : Int} (h0 : 0 ≤ n) (h : n ≤ 1000000000000000000000000000000) : n.natAbs.log2 < 1920 := by
  have e : (2 : Nat) ^ 104 = 20282409603651670423947251286016 := by decide +kernel
  have := PySem.Flt.log2_lt_of (show 0 < 104 by decide) (show n.natAbs < 2 ^ 104 by rw [e]; omega)
  omega
theorem nxT {σ : L2.St} {H : Hp} {N : L2.St → Hp → Prop} {r : VK} {b c : L2.St → Hp → Prop} (h : N σ H) : tNext { nx := N, rt := r, bk := b, ct := c } σ H := h
theorem nxG {σ : L2.St} {H : Hp} {N : L2.St → Hp → Prop} {r : VK} {b c : L2.St → Hp → Prop} (h : N σ H) : Ends.nx { nx := N, rt := r, bk := b, ct := c } σ H := h
theorem setI {i : Nat} {v w : V} {σ : L2.St} {H : Hp} {k : L2.St → Hp → Prop} (e : v = w) (h : gName i w σ H k) : gName i v σ H k := by rw [e]; exact h
theorem nodecE {x y : V} (h : x = y) : ¬ ((!decide (x = y)) = true) := by subst h; simp
theorem par_len : ∀ (l acc h r : List Nat), TL.par [58] acc l = some (h, r) → h.length + r.length ≤ acc.length + l.length
  | [], acc, h, r, e => by cases e
  | c :: l, acc, h, r, e => by
    cases q : TL.pre [58] (c :: l) with
    | true =>
      rw [TL.par_hit q] at e
      have e2 := Option.some.inj e
      have h1 : acc = h := congrArg Prod.fst e2
      have h2 : (c :: l).drop 1 = r := congrArg Prod.snd e2
      rw [← h1, ← h2]
      simp only [List.drop_succ_cons, List.drop_zero, List.length_cons]
      omega
    | false =>
      rw [TL.par_miss q] at e
      have := par_len l (acc ++ [c]) h r e
      rw [List.length_append] at this
      simp only [List.length_cons, List.length_nil] at this ⊢
      omega
theorem part_cases (t : List Nat) : ∃ hL cL tL : List Nat, Txt.partition (SS t) ":" = (SS hL, SS cL, SS tL) ∧ hL.length ≤ t.length ∧ tL.length ≤ t.length ∧ ((cL = [] ∧ TL.par [58] [] t = none) ∨ (cL = [58] ∧ TL.par [58] [] t = some (hL, tL))) := by
  cases e : TL.par [58] [] t with
  | none => exact ⟨t, [], [], SX.partition_none (a := t) (b := [58]) (by simp) e, Nat.le_refl _, Nat.zero_le _, .inl ⟨rfl, rfl⟩⟩
  | some x =>
    obtain ⟨h, r⟩ := x
    have := par_len t [] h r e
    simp only [List.length_nil] at this
    exact ⟨h, [58], r, SX.partition_some (a := t) (b := [58]) (by simp) e, by omega, by omega, .inr ⟨rfl, rfl⟩⟩
theorem split_sp (l : List Nat) : Txt.split (SS l) " " = (TL.spl [32] 0 [] l).map SS := SX.split_S (a := l) (b := [32]) (by simp) rfl
end Lc

namespace K07
open PySem PySem.Spec PyProof.Rows L2 Lc
def topS (i : Nat) : Stmt := PySem.Challenge.pw_lowcolumns_k07_strings_of_cards.main.body.getD i (.Pass ⟨0, 0, 0, 0⟩)
abbrev s_is_integer_within : Stmt := topS 9
abbrev nm_is_integer_within : List Str := ["value", "least", "greatest"]
theorem sc_is_integer_within : FnScope nm_is_integer_within ["value", "least", "greatest"] (defScope s_is_integer_within) :=
  ⟨rfl, rfl, rfl, by decide +kernel, rfl, by decide +kernel, by decide +kernel⟩
abbrev s_is_list_of_integers : Stmt := topS 10
abbrev nm_is_list_of_integers : List Str := ["value", "fewest", "most", "least", "greatest", "item"]
theorem sc_is_list_of_integers : FnScope nm_is_list_of_integers ["value", "fewest", "most", "least", "greatest"] (defScope s_is_list_of_integers) :=
  ⟨rfl, rfl, rfl, by decide +kernel, rfl, by decide +kernel, by decide +kernel⟩
abbrev s_is_start : Stmt := topS 12
abbrev nm_is_start : List Str := ["value"]
theorem sc_is_start : FnScope nm_is_start ["value"] (defScope s_is_start) :=
  ⟨rfl, rfl, rfl, by decide +kernel, rfl, by decide +kernel, by decide +kernel⟩
abbrev s_is_cards : Stmt := topS 13
abbrev nm_is_cards : List Str := ["value"]
theorem sc_is_cards : FnScope nm_is_cards ["value"] (defScope s_is_cards) :=
  ⟨rfl, rfl, rfl, by decide +kernel, rfl, by decide +kernel, by decide +kernel⟩
abbrev s_check_start : Stmt := topS 14
abbrev nm_check_start : List Str := ["start"]
theorem sc_check_start : FnScope nm_check_start ["start"] (defScope s_check_start) :=
  ⟨rfl, rfl, rfl, by decide +kernel, rfl, by decide +kernel, by decide +kernel⟩
abbrev s_check_cards : Stmt := topS 15
abbrev nm_check_cards : List Str := ["heights"]
theorem sc_check_cards : FnScope nm_check_cards ["heights"] (defScope s_check_cards) :=
  ⟨rfl, rfl, rfl, by decide +kernel, rfl, by decide +kernel, by decide +kernel⟩
abbrev s_check_start_and_cards : Stmt := topS 16
abbrev nm_check_start_and_cards : List Str := ["start", "heights"]
theorem sc_check_start_and_cards : FnScope nm_check_start_and_cards ["start", "heights"] (defScope s_check_start_and_cards) :=
  ⟨rfl, rfl, rfl, by decide +kernel, rfl, by decide +kernel, by decide +kernel⟩
abbrev s_format_cards : Stmt := topS 20
abbrev nm_format_cards : List Str := ["start", "heights", "numbers", "height"]
theorem sc_format_cards : FnScope nm_format_cards ["start", "heights"] (defScope s_format_cards) :=
  ⟨rfl, rfl, rfl, by decide +kernel, rfl, by decide +kernel, by decide +kernel⟩
abbrev s_is_numeral : Stmt := topS 21
abbrev nm_is_numeral : List Str := ["word", "sign"]
theorem sc_is_numeral : FnScope nm_is_numeral ["word"] (defScope s_is_numeral) :=
  ⟨rfl, rfl, rfl, by decide +kernel, rfl, by decide +kernel, by decide +kernel⟩
abbrev s_parse_cards : Stmt := topS 22
abbrev nm_parse_cards : List Str := ["text", "head", "colon", "tail", "words", "before", "others", "start", "heights", "word"]
theorem sc_parse_cards : FnScope nm_parse_cards ["text"] (defScope s_parse_cards) :=
  ⟨rfl, rfl, rfl, by decide +kernel, rfl, by decide +kernel, by decide +kernel⟩
abbrev s_law_source : Stmt := topS 24
abbrev nm_law_source : List Str := ["cell", "k"]
theorem sc_law_source : FnScope nm_law_source ["cell", "k"] (defScope s_law_source) :=
  ⟨rfl, rfl, rfl, by decide +kernel, rfl, by decide +kernel, by decide +kernel⟩
abbrev s_law_draw : Stmt := topS 25
abbrev nm_law_draw : List Str := ["source", "count", "digit", "mixed"]
theorem sc_law_draw : FnScope nm_law_draw ["source", "count"] (defScope s_law_draw) :=
  ⟨rfl, rfl, rfl, by decide +kernel, rfl, by decide +kernel, by decide +kernel⟩
abbrev s_law_start : Stmt := topS 26
abbrev nm_law_start : List Str := ["source", "most", "many", "wide", "step"]
theorem sc_law_start : FnScope nm_law_start ["source", "most"] (defScope s_law_start) :=
  ⟨rfl, rfl, rfl, by decide +kernel, rfl, by decide +kernel, by decide +kernel⟩
abbrev s_law_cards : Stmt := topS 27
abbrev nm_law_cards : List Str := ["source", "most", "many", "wide", "step"]
theorem sc_law_cards : FnScope nm_law_cards ["source", "most"] (defScope s_law_cards) :=
  ⟨rfl, rfl, rfl, by decide +kernel, rfl, by decide +kernel, by decide +kernel⟩
abbrev s_law_equal : Stmt := topS 28
abbrev nm_law_equal : List Str := ["result", "expected", "one", "other"]
theorem sc_law_equal : FnScope nm_law_equal ["result", "expected"] (defScope s_law_equal) :=
  ⟨rfl, rfl, rfl, by decide +kernel, rfl, by decide +kernel, by decide +kernel⟩
abbrev s_law_holds : Stmt := topS 29
abbrev nm_law_holds : List Str := ["source", "most", "lead", "cards", "step", "before", "written", "size", "found", "attempt", "made"]
theorem sc_law_holds : FnScope nm_law_holds ["source", "most"] (defScope s_law_holds) :=
  ⟨rfl, rfl, rfl, by decide +kernel, rfl, by decide +kernel, by decide +kernel⟩
abbrev s_law : Stmt := topS 30
abbrev nm_law : List Str := ["script", "k", "cell"]
theorem sc_law : FnScope nm_law ["script"] (defScope s_law) :=
  ⟨rfl, rfl, rfl, by decide +kernel, rfl, by decide +kernel, by decide +kernel⟩
structure Txt (K : PySem.W.Frag) (mg : Str → Option Value) where
  a_LowcolumnsError : Addr
  a_InvalidStartError : Addr
  a_InvalidCardsError : Addr
  a_InvalidFormatError : Addr
  e_LowcolumnsError : ExT K mg "LowcolumnsError" a_LowcolumnsError [.ref a_LowcolumnsError, .type "ValueError", .type "Exception", .type "BaseException", .type "object"]
  e_InvalidStartError : ExT K mg "InvalidStartError" a_InvalidStartError [.ref a_InvalidStartError, .ref a_LowcolumnsError, .type "ValueError", .type "Exception", .type "BaseException", .type "object"]
  e_InvalidCardsError : ExT K mg "InvalidCardsError" a_InvalidCardsError [.ref a_InvalidCardsError, .ref a_LowcolumnsError, .type "ValueError", .type "Exception", .type "BaseException", .type "object"]
  e_InvalidFormatError : ExT K mg "InvalidFormatError" a_InvalidFormatError [.ref a_InvalidFormatError, .ref a_LowcolumnsError, .type "ValueError", .type "Exception", .type "BaseException", .type "object"]
  nd_cls : [a_InvalidCardsError, a_InvalidFormatError, a_InvalidStartError, a_LowcolumnsError].Nodup
  a_is_integer_within : Addr
  d_is_integer_within : FuncData
  F_is_integer_within : Fun K "is_integer_within" "is_integer_within" s_is_integer_within a_is_integer_within d_is_integer_within
  b_is_integer_within : Binds K d_is_integer_within ["value", "least", "greatest"] []
  g_is_integer_within : mg "is_integer_within" = some (.ref a_is_integer_within)
  a_is_list_of_integers : Addr
  d_is_list_of_integers : FuncData
  F_is_list_of_integers : Fun K "is_list_of_integers" "is_list_of_integers" s_is_list_of_integers a_is_list_of_integers d_is_list_of_integers
  b_is_list_of_integers : Binds K d_is_list_of_integers ["value", "fewest", "most", "least", "greatest"] []
  g_is_list_of_integers : mg "is_list_of_integers" = some (.ref a_is_list_of_integers)
  a_is_start : Addr
  d_is_start : FuncData
  F_is_start : Fun K "is_start" "is_start" s_is_start a_is_start d_is_start
  b_is_start : Binds K d_is_start ["value"] []
  g_is_start : mg "is_start" = some (.ref a_is_start)
  a_is_cards : Addr
  d_is_cards : FuncData
  F_is_cards : Fun K "is_cards" "is_cards" s_is_cards a_is_cards d_is_cards
  b_is_cards : Binds K d_is_cards ["value"] []
  g_is_cards : mg "is_cards" = some (.ref a_is_cards)
  a_check_start : Addr
  d_check_start : FuncData
  F_check_start : Fun K "check_start" "check_start" s_check_start a_check_start d_check_start
  b_check_start : Binds K d_check_start ["start"] []
  g_check_start : mg "check_start" = some (.ref a_check_start)
  a_check_cards : Addr
  d_check_cards : FuncData
  F_check_cards : Fun K "check_cards" "check_cards" s_check_cards a_check_cards d_check_cards
  b_check_cards : Binds K d_check_cards ["heights"] []
  g_check_cards : mg "check_cards" = some (.ref a_check_cards)
  a_check_start_and_cards : Addr
  d_check_start_and_cards : FuncData
  F_check_start_and_cards : Fun K "check_start_and_cards" "check_start_and_cards" s_check_start_and_cards a_check_start_and_cards d_check_start_and_cards
  b_check_start_and_cards : Binds K d_check_start_and_cards ["start", "heights"] []
  g_check_start_and_cards : mg "check_start_and_cards" = some (.ref a_check_start_and_cards)
  a_format_cards : Addr
  d_format_cards : FuncData
  F_format_cards : Fun K "format_cards" "format_cards" s_format_cards a_format_cards d_format_cards
  b_format_cards : Binds K d_format_cards ["start", "heights"] []
  g_format_cards : mg "format_cards" = some (.ref a_format_cards)
  a_is_numeral : Addr
  d_is_numeral : FuncData
  F_is_numeral : Fun K "is_numeral" "is_numeral" s_is_numeral a_is_numeral d_is_numeral
  b_is_numeral : Binds K d_is_numeral ["word"] []
  g_is_numeral : mg "is_numeral" = some (.ref a_is_numeral)
  a_parse_cards : Addr
  d_parse_cards : FuncData
  F_parse_cards : Fun K "parse_cards" "parse_cards" s_parse_cards a_parse_cards d_parse_cards
  b_parse_cards : Binds K d_parse_cards ["text"] []
  g_parse_cards : mg "parse_cards" = some (.ref a_parse_cards)
  a_law_source : Addr
  d_law_source : FuncData
  F_law_source : Fun K "_law_source" "_law_source" s_law_source a_law_source d_law_source
  b_law_source : Binds K d_law_source ["cell", "k"] []
  g_law_source : mg "_law_source" = some (.ref a_law_source)
  a_law_draw : Addr
  d_law_draw : FuncData
  F_law_draw : Fun K "_law_draw" "_law_draw" s_law_draw a_law_draw d_law_draw
  b_law_draw : Binds K d_law_draw ["source", "count"] []
  g_law_draw : mg "_law_draw" = some (.ref a_law_draw)
  a_law_start : Addr
  d_law_start : FuncData
  F_law_start : Fun K "_law_start" "_law_start" s_law_start a_law_start d_law_start
  b_law_start : Binds K d_law_start ["source", "most"] []
  g_law_start : mg "_law_start" = some (.ref a_law_start)
  a_law_cards : Addr
  d_law_cards : FuncData
  F_law_cards : Fun K "_law_cards" "_law_cards" s_law_cards a_law_cards d_law_cards
  b_law_cards : Binds K d_law_cards ["source", "most"] []
  g_law_cards : mg "_law_cards" = some (.ref a_law_cards)
  a_law_equal : Addr
  d_law_equal : FuncData
  F_law_equal : Fun K "_law_equal" "_law_equal" s_law_equal a_law_equal d_law_equal
  b_law_equal : Binds K d_law_equal ["result", "expected"] []
  g_law_equal : mg "_law_equal" = some (.ref a_law_equal)
  a_law_holds : Addr
  d_law_holds : FuncData
  F_law_holds : Fun K "_law_holds" "_law_holds" s_law_holds a_law_holds d_law_holds
  b_law_holds : Binds K d_law_holds ["source", "most"] []
  g_law_holds : mg "_law_holds" = some (.ref a_law_holds)
  a_law : Addr
  d_law : FuncData
  F_law : Fun K "law" "law" s_law a_law d_law
  b_law : Binds K d_law ["script"] []
  g_law : mg "law" = some (.ref a_law)
  z_isinstance : mg "isinstance" = none
  z_bool : mg "bool" = none
  z_int : mg "int" = none
  z_len : mg "len" = none
  z_type : mg "type" = none
  z_list : mg "list" = none
  z_all : mg "all" = none
  z_str : mg "str" = none
  z_max : mg "max" = none
  z_min : mg "min" = none
  z_range : mg "range" = none
  z_tuple : mg "tuple" = none
  z_zip : mg "zip" = none
  z_repr : mg "repr" = none
  z_enumerate : mg "enumerate" = none
  t_MOST_HEIGHT : Tok
  c_MOST_HEIGHT : mg "MOST_HEIGHT" = some (.int (1000000000000000000000000000000) t_MOST_HEIGHT)
  t_MOST_COLUMNS : Tok
  c_MOST_COLUMNS : mg "MOST_COLUMNS" = some (.int (30) t_MOST_COLUMNS)
  t_MOST_CARDS : Tok
  c_MOST_CARDS : mg "MOST_CARDS" = some (.int (200) t_MOST_CARDS)
  t_MOST_DIGITS : Tok
  c_MOST_DIGITS : mg "MOST_DIGITS" = some (.int (31) t_MOST_DIGITS)
  t_DIGITS : Tok
  c_DIGITS : mg "DIGITS" = some (.str ("0123456789") t_DIGITS)
section
variable {P : Program} {w : World} {K : PySem.W.Frag} {mg : Str → Option Value} {base : Heap}
/-! ### the program -/
def spIW : Sp := fun vs H Q _ => ∃ v lo hi : Int, vs = [.int v, .int lo, .int hi] ∧ Q (.bl (decide (lo ≤ v ∧ v ≤ hi))) H
theorem ok_is_integer_within (T : Txt K mg) : FnOk P w K mg base CX0 1 T.a_is_integer_within T.d_is_integer_within ["value", "least", "greatest"] spIW := by
  refine T.F_is_integer_within.ok sc_is_integer_within (fun vs H Q E h => ?_) (fun cdv A outer s H vs Q E hr h => ?_)
  · obtain ⟨v, lo, hi, rfl, _⟩ := h; rfl
  · obtain ⟨v, lo, hi, rfl, q⟩ := h
    refine ⟨_, (pss_cons (ps_if (PW.pt (pw_or (pt_not (pt_val (pe_callB call_isi (by rfl) T.z_isinstance (by decide +kernel) (pa_cons (pv 0) (pa_cons (pe_bltn (v := .ty "int") (by rfl) T.z_int (by decide +kernel) rfl) pa_nil))))) (pw_or1 (pt_val (pe_callB call_isi (by rfl) T.z_isinstance (by decide +kernel) (pa_cons (pv 0) (pa_cons (pe_bltn (v := .ty "bool") (by rfl) T.z_bool (by decide +kernel) rfl) pa_nil)))))))
  (pss_one (ps_ret pe_bl))
  pss_nil)
  (pss_one (ps_ret (pe_chain op_le op_le (pv 1) (pv 0) (pv 2))))), ?_⟩
    refine ⟨.int v, rfl, .int v, .ty "int", .type "int", .type "int", true, rfl, .ty _, .base (.int v), kit_ty (by decide +kernel), true, rfl, ?_⟩
    refine iteF ⟨.int v, rfl, .int v, .ty "bool", .type "int", .type "bool", false, rfl, .ty _, .base (.int v), kit_ty (by decide +kernel), false, rfl, iteF ?_⟩
    refine ⟨.int lo, rfl, .int v, rfl, lo, v, rfl, rfl, decide (lo ≤ v), rfl, ?_⟩
    by_cases h1 : lo ≤ v
    · rw [decide_eq_true h1]
      refine iteT ⟨.int hi, rfl, v, hi, rfl, rfl, ?_⟩
      have e : decide (v ≤ hi) = decide (lo ≤ v ∧ v ≤ hi) := by simp [h1]
      show Q (.bl (decide (v ≤ hi))) H
      rw [e]
      exact q
    · rw [decide_eq_false h1]
      refine iteF ?_
      rw [show decide (lo ≤ v ∧ v ≤ hi) = false by simp [h1]] at q
      exact q
abbrev big : Int := 1000000000000000000000000000000
def spIL (K : PySem.W.Frag) : Sp := fun vs H Q _ => ∃ (a : Addr) (few most least gr : Int) (ns : List Int), vs = [.ref a, .int few, .int most, .int least, .int gr] ∧ SqL K H a (ns.map V.int) ∧ ns.length ≤ 90000 ∧
  ∀ H', Same H H' → Q (.bl (decide (few ≤ ns.length ∧ (ns.length : Int) ≤ most) && within least gr ns)) H'
theorem ok_is_list_of_integers (T : Txt K mg) : FnOk P w K mg base CX0 2 T.a_is_list_of_integers T.d_is_list_of_integers ["value", "fewest", "most", "least", "greatest"] (spIL K) := by
  refine T.F_is_list_of_integers.ok sc_is_list_of_integers (fun vs H Q E h => ?_) (fun cdv A outer s H vs Q E hr h => ?_)
  · obtain ⟨a, few, most, least, gr, ns, rfl, _⟩ := h; rfl
  · obtain ⟨a, few, most, least, gr, ns, rfl, hS, hlen, q⟩ := h
    refine ⟨_, (pss_cons (ps_if (PW.pt (pw_and (pt_cmpR op_eqTy (pe_callTy call_type_list (by rfl) T.z_type (by decide +kernel) (pa_cons (pv 0) pa_nil)) (pe_bltn (v := .ty "list") (by rfl) T.z_list (by decide +kernel) rfl) (nomark _)) (pw_and1 (pt_chain op_le op_le (pv 1) (pe_callB call_len_seq (by rfl) T.z_len (by decide +kernel) (pa_cons (pv 0) pa_nil)) (pv 2)))))
  (pss_one (ps_ret (pe_callB (cr_all rfl) (by rfl) T.z_all (by decide +kernel) (pa_cons (pe_lc (own := [("item", 5)]) rfl sc_is_list_of_integers.nd (pi_list (pv 0)) (blkOk_by (own := [("item", 5)]) (N := nm_is_list_of_integers) (sc := defScope s_is_list_of_integers) (by decide +kernel)) (fun _ _ _ _ _ => (pg_name (i := 5) sc_is_list_of_integers.nd rfl (.inl rfl))) (fun _ _ _ _ _ => pts_nil) (fun _ _ _ _ _ => (pe_call (ok_is_integer_within T) hr (by rfl) T.g_is_integer_within T.F_is_integer_within.kp T.b_is_integer_within .nil pass0 (pa_cons (pv 5) (pa_cons (pv 3) (pa_cons (pv 4) pa_nil)))))) pa_nil))))
  pss_nil)
  (pss_one (ps_ret pe_bl))), ?_⟩
    refine ⟨.ref a, rfl, ⟨a, _, rfl, hS, rfl, rfl, true, rfl, iteT ?_⟩⟩
    refine ⟨.int few, rfl, .ref a, rfl, a, _, rfl, .inl hS, few, _, rfl, rfl, decide (few ≤ ((ns.map V.int).length : Int)), rfl, ?_⟩
    have eL : (((ns.map V.int).length : Nat) : Int) = (ns.length : Int) := by rw [List.length_map]
    rw [eL]
    have bad : ¬ (few ≤ (ns.length : Int) ∧ (ns.length : Int) ≤ most) → Q (.bl false) H := fun hn => by
      have := q H (Same.refl H)
      rw [decide_eq_false hn] at this
      exact this
    by_cases h1 : few ≤ (ns.length : Int)
    · rw [decide_eq_true h1]
      refine iteT ⟨.int most, rfl, (ns.length : Int), most, rfl, rfl, decide ((ns.length : Int) ≤ most), rfl, ?_⟩
      by_cases h2 : (ns.length : Int) ≤ most
      · rw [decide_eq_true h2]
        refine iteT ⟨.ref a, rfl, a, rfl, ⟨_, hS⟩, fun D nD => ?_⟩
        refine lc_list (K := K) (a := a) (xs := ns.map V.int) (fun i H' => Same H H' ∧ H' D = some (.lst ((ns.take i).map fun n => V.bl (decide (least ≤ n ∧ n ≤ gr)))))
          ⟨same_new _ nD, upd_same⟩ (fun i H' _ p => p.1.seq hS) (fun i x H' e p => ?_) (fun H' p => ?_)
        · obtain ⟨n, en, rfl⟩ := get_map e
          obtain ⟨sm, eD⟩ := p
          refine ⟨rfl, ?_⟩
          refine ⟨.int n, rfl, .int least, rfl, .int gr, rfl, n, least, gr, rfl, _, eD, ?_, same_set sm nD, ?_⟩
          · rw [List.length_map, List.length_take]
            exact small_of (Nat.le_trans (Nat.min_le_right _ _) hlen) (by decide)
          · rw [upd_same, take_map_succ (fun n => V.bl (decide (least ≤ n ∧ n ≤ gr))) en]
        · obtain ⟨sm, eD⟩ := p
          rw [List.length_map, List.take_length] at eD
          refine ⟨D, ns.map (fun n => decide (least ≤ n ∧ n ≤ gr)), rfl, SqL.of (by rw [eD, List.map_map]; rfl), ?_⟩
          have := q H' sm
          rw [decide_eq_true ⟨h1, h2⟩, Bool.true_and] at this
          rw [List.all_map]
          exact this
      · rw [decide_eq_false h2]
        exact iteF (bad fun z => h2 z.2)
    · rw [decide_eq_false h1]
      exact iteF ⟨false, rfl, iteF (bad fun z => h1 z.1)⟩
/-- starts, cards -/
structure IsStart (ns : List Int) : Prop where
  len : 1 ≤ ns.length ∧ ns.length ≤ 30
  all : ∀ n ∈ ns, 0 ≤ n ∧ n ≤ big
structure IsCards (ns : List Int) : Prop where
  len : ns.length ≤ 200
  all : ∀ n ∈ ns, 1 ≤ n ∧ n ≤ big
theorem within_of {lo hi : Int} {ns : List Int} (h : ∀ n ∈ ns, lo ≤ n ∧ n ≤ hi) : within lo hi ns = true := List.all_eq_true.mpr fun n hn => decide_eq_true (h n hn)
def spSt (K : PySem.W.Frag) : Sp := fun vs H Q _ => ∃ (a : Addr) (ns : List Int), vs = [.ref a] ∧ SqL K H a (ns.map V.int) ∧ IsStart ns ∧ ∀ H', Same H H' → Q (.bl true) H'
def spCd (K : PySem.W.Frag) : Sp := fun vs H Q _ => ∃ (a : Addr) (ns : List Int), vs = [.ref a] ∧ SqL K H a (ns.map V.int) ∧ IsCards ns ∧ ∀ H', Same H H' → Q (.bl true) H'
theorem ok_is_start (T : Txt K mg) : FnOk P w K mg base CX0 3 T.a_is_start T.d_is_start ["value"] (spSt K) := by
  refine T.F_is_start.ok sc_is_start (fun vs H Q E h => ?_) (fun cdv A outer s H vs Q E hr h => ?_)
  · obtain ⟨a, ns, rfl, _⟩ := h; rfl
  · obtain ⟨a, ns, rfl, hS, st, q⟩ := h
    refine ⟨_, (pss_one (ps_ret (pe_call (ok_is_list_of_integers T) hr (by rfl) T.g_is_list_of_integers T.F_is_list_of_integers.kp T.b_is_list_of_integers .nil pass0 (pa_cons (pv 0) (pa_cons pe_int (pa_cons (pe_glob (v := .int 30) (by rfl) T.c_MOST_COLUMNS ⟨_, rfl⟩) (pa_cons pe_int (pa_cons (pe_glob (v := .int 1000000000000000000000000000000) (by rfl) T.c_MOST_HEIGHT ⟨_, rfl⟩) pa_nil)))))))), ?_⟩
    refine ⟨.ref a, rfl, a, 1, 30, 0, big, ns, rfl, hS, by have := st.len; omega, fun H' sm => ?_⟩
    have := st.len
    rw [within_of st.all, decide_eq_true (by omega)]
    exact q H' sm
theorem ok_is_cards (T : Txt K mg) : FnOk P w K mg base CX0 3 T.a_is_cards T.d_is_cards ["value"] (spCd K) := by
  refine T.F_is_cards.ok sc_is_cards (fun vs H Q E h => ?_) (fun cdv A outer s H vs Q E hr h => ?_)
  · obtain ⟨a, ns, rfl, _⟩ := h; rfl
  · obtain ⟨a, ns, rfl, hS, st, q⟩ := h
    refine ⟨_, (pss_one (ps_ret (pe_call (ok_is_list_of_integers T) hr (by rfl) T.g_is_list_of_integers T.F_is_list_of_integers.kp T.b_is_list_of_integers .nil pass0 (pa_cons (pv 0) (pa_cons pe_int (pa_cons (pe_glob (v := .int 200) (by rfl) T.c_MOST_CARDS ⟨_, rfl⟩) (pa_cons pe_int (pa_cons (pe_glob (v := .int 1000000000000000000000000000000) (by rfl) T.c_MOST_HEIGHT ⟨_, rfl⟩) pa_nil)))))))), ?_⟩
    refine ⟨.ref a, rfl, a, 0, 200, 1, big, ns, rfl, hS, by have := st.len; omega, fun H' sm => ?_⟩
    have := st.len
    rw [within_of st.all, decide_eq_true (by omega)]
    exact q H' sm
def spCSt (K : PySem.W.Frag) : Sp := fun vs H Q _ => ∃ (a : Addr) (ns : List Int), vs = [.ref a] ∧ SqL K H a (ns.map V.int) ∧ IsStart ns ∧ ∀ H', Same H H' → Q .non H'
def spCCd (K : PySem.W.Frag) : Sp := fun vs H Q _ => ∃ (a : Addr) (ns : List Int), vs = [.ref a] ∧ SqL K H a (ns.map V.int) ∧ IsCards ns ∧ ∀ H', Same H H' → Q .non H'
theorem ok_check_start (T : Txt K mg) : FnOk P w K mg base CX0 4 T.a_check_start T.d_check_start ["start"] (spCSt K) := by
  refine T.F_check_start.ok sc_check_start (fun vs H Q E h => ?_) (fun cdv A outer s H vs Q E hr h => ?_)
  · obtain ⟨a, ns, rfl, _⟩ := h; rfl
  · obtain ⟨a, ns, rfl, hS, st, q⟩ := h
    refine ⟨_, (pss_one (ps_if (pt_not (pt_val (pe_call (ok_is_start T) hr (by rfl) T.g_is_start T.F_is_start.kp T.b_is_start .nil pass0 (pa_cons (pv 0) pa_nil))))
  (pss_one ps_never)
  pss_nil)), ?_⟩
    exact ⟨.ref a, rfl, a, ns, rfl, hS, st, fun H' sm => ⟨true, rfl, iteF (q H' sm)⟩⟩
theorem ok_check_cards (T : Txt K mg) : FnOk P w K mg base CX0 4 T.a_check_cards T.d_check_cards ["heights"] (spCCd K) := by
  refine T.F_check_cards.ok sc_check_cards (fun vs H Q E h => ?_) (fun cdv A outer s H vs Q E hr h => ?_)
  · obtain ⟨a, ns, rfl, _⟩ := h; rfl
  · obtain ⟨a, ns, rfl, hS, st, q⟩ := h
    refine ⟨_, (pss_one (ps_if (pt_not (pt_val (pe_call (ok_is_cards T) hr (by rfl) T.g_is_cards T.F_is_cards.kp T.b_is_cards .nil pass0 (pa_cons (pv 0) pa_nil))))
  (pss_one ps_never)
  pss_nil)), ?_⟩
    exact ⟨.ref a, rfl, a, ns, rfl, hS, st, fun H' sm => ⟨true, rfl, iteF (q H' sm)⟩⟩
def spCSC (K : PySem.W.Frag) : Sp := fun vs H Q _ => ∃ (a b : Addr) (xs ns : List Int), vs = [.ref a, .ref b] ∧ SqL K H a (xs.map V.int) ∧ SqL K H b (ns.map V.int) ∧ IsStart xs ∧ IsCards ns ∧ ∀ H', Same H H' → Q .non H'
theorem ok_check_start_and_cards (T : Txt K mg) : FnOk P w K mg base CX0 5 T.a_check_start_and_cards T.d_check_start_and_cards ["start", "heights"] (spCSC K) := by
  refine T.F_check_start_and_cards.ok sc_check_start_and_cards (fun vs H Q E h => ?_) (fun cdv A outer s H vs Q E hr h => ?_)
  · obtain ⟨a, b, xs, ns, rfl, _⟩ := h; rfl
  · obtain ⟨a, b, xs, ns, rfl, hA, hB, st, cd, q⟩ := h
    refine ⟨_, (pss_cons (ps_expr (pe_call (ok_check_start T) hr (by rfl) T.g_check_start T.F_check_start.kp T.b_check_start .nil pass0 (pa_cons (pv 0) pa_nil)))
  (pss_one (ps_expr (pe_call (ok_check_cards T) hr (by rfl) T.g_check_cards T.F_check_cards.kp T.b_check_cards .nil pass0 (pa_cons (pv 1) pa_nil))))), ?_⟩
    exact ⟨.ref a, rfl, a, xs, rfl, hA, st, fun H1 s1 => ⟨.ref b, rfl, b, ns, rfl, s1.seq hB, cd, fun H2 s2 => q H2 (s1.trans s2)⟩⟩
end

section
variable {P : Program} {w : World} {K : PySem.W.Frag} {mg : Str → Option Value} {base : Heap}
/-! ### strings of cards -/
theorem bigE : (big : Int) = 1000000000000000000000000000000 := rfl
theorem sizeN {n : Nat} (h : n ≤ 100000) : n ≤ sizeLine := small_le h (by decide)
def spStI (K : PySem.W.Frag) : Sp := fun vs H Q _ => ∃ (a : Addr) (ns : List Int), vs = [.ref a] ∧ SqL K H a (ns.map V.int) ∧ ns.length ≤ 90000 ∧ ∀ H', Same H H' → Q (.bl (okSt ns)) H'
def spCdI (K : PySem.W.Frag) : Sp := fun vs H Q _ => ∃ (a : Addr) (ns : List Int), vs = [.ref a] ∧ SqL K H a (ns.map V.int) ∧ ns.length ≤ 90000 ∧ ∀ H', Same H H' → Q (.bl (okCd ns)) H'
theorem ok_is_startI (T : Txt K mg) : FnOk P w K mg base CX0 3 T.a_is_start T.d_is_start ["value"] (spStI K) := by
  refine T.F_is_start.ok sc_is_start (fun vs H Q E h => ?_) (fun cdv A outer s H vs Q E hr h => ?_)
  · obtain ⟨a, ns, rfl, _⟩ := h; rfl
  · obtain ⟨a, ns, rfl, hS, hl, q⟩ := h
    refine ⟨_, (pss_one (ps_ret (pe_call (ok_is_list_of_integers T) hr (by rfl) T.g_is_list_of_integers T.F_is_list_of_integers.kp T.b_is_list_of_integers .nil pass0 (pa_cons (pv 0) (pa_cons pe_int (pa_cons (pe_glob (v := .int 30) (by rfl) T.c_MOST_COLUMNS ⟨_, rfl⟩) (pa_cons pe_int (pa_cons (pe_glob (v := .int 1000000000000000000000000000000) (by rfl) T.c_MOST_HEIGHT ⟨_, rfl⟩) pa_nil)))))))), ?_⟩
    exact ⟨.ref a, rfl, a, 1, 30, 0, big, ns, rfl, hS, hl, fun H' sm => q H' sm⟩
theorem ok_is_cardsI (T : Txt K mg) : FnOk P w K mg base CX0 3 T.a_is_cards T.d_is_cards ["value"] (spCdI K) := by
  refine T.F_is_cards.ok sc_is_cards (fun vs H Q E h => ?_) (fun cdv A outer s H vs Q E hr h => ?_)
  · obtain ⟨a, ns, rfl, _⟩ := h; rfl
  · obtain ⟨a, ns, rfl, hS, hl, q⟩ := h
    refine ⟨_, (pss_one (ps_ret (pe_call (ok_is_list_of_integers T) hr (by rfl) T.g_is_list_of_integers T.F_is_list_of_integers.kp T.b_is_list_of_integers .nil pass0 (pa_cons (pv 0) (pa_cons pe_int (pa_cons (pe_glob (v := .int 200) (by rfl) T.c_MOST_CARDS ⟨_, rfl⟩) (pa_cons pe_int (pa_cons (pe_glob (v := .int 1000000000000000000000000000000) (by rfl) T.c_MOST_HEIGHT ⟨_, rfl⟩) pa_nil)))))))), ?_⟩
    exact ⟨.ref a, rfl, a, 0, 200, 1, big, ns, rfl, hS, hl, fun H' sm => q H' sm⟩
def spFmt (K : PySem.W.Frag) : Sp := fun vs H Q _ => ∃ (a b : Addr) (cs hs : List Int), vs = [.ref a, .ref b] ∧ SqL K H a (cs.map V.int) ∧ SqL K H b (hs.map V.int) ∧ IsStart cs ∧ IsCards hs ∧ ∀ H', Same H H' → Q (.str (SS (fmtL cs hs))) H'
theorem ok_format_cards (T : Txt K mg) : FnOk P w K mg base CX0 6 T.a_format_cards T.d_format_cards ["start", "heights"] (spFmt K) := by
  refine T.F_format_cards.ok sc_format_cards (fun vs H Q E h => ?_) (fun cdv A outer s H vs Q E hr h => ?_)
  · obtain ⟨a, b, cs, hs, rfl, _⟩ := h; rfl
  · obtain ⟨a, b, cs, hs, rfl, hA, hB, st, cd, q⟩ := h
    refine ⟨_, (pss_cons (ps_expr (pe_call (ok_check_start_and_cards T) hr (by rfl) T.g_check_start_and_cards T.F_check_start_and_cards.kp T.b_check_start_and_cards .nil pass0 (pa_cons (pv 0) (pa_cons (pv 1) pa_nil))))
  (pss_cons (ps_set (i := 2) sc_format_cards.nd rfl (.inl rfl) (pe_join pe_str (pe_lc (own := [("height", 3)]) (te := (tCB rStrI (tCons (tVar 3) tNil))) rfl sc_format_cards.nd (pi_list (pv 0)) (blkOk_by (own := [("height", 3)]) (N := nm_format_cards) (sc := defScope s_format_cards) (by decide +kernel)) (fun _ _ _ _ _ => (pg_name (i := 3) sc_format_cards.nd rfl (.inl rfl))) (fun _ _ _ _ _ => pts_nil) (fun _ _ _ _ _ => (pe_callTy call_str_int (by rfl) T.z_str (by decide +kernel) (pa_cons (pv 3) pa_nil))))))
  (pss_one (ps_ret (pe_op op_add_str (pe_op op_add_str (pv 2) pe_str) (pe_join pe_str (pe_lc (own := [("height", 3)]) (te := (tOp rAddS (tC (.str " ")) (tCB rStrI (tCons (tVar 3) tNil)))) rfl sc_format_cards.nd (pi_list (pv 1)) (blkOk_by (own := [("height", 3)]) (N := nm_format_cards) (sc := defScope s_format_cards) (by decide +kernel)) (fun _ _ _ _ _ => (pg_name (i := 3) sc_format_cards.nd rfl (.inl rfl))) (fun _ _ _ _ _ => pts_nil) (fun _ _ _ _ _ => (pe_op op_add_str pe_str (pe_callTy call_str_int (by rfl) T.z_str (by decide +kernel) (pa_cons (pv 3) pa_nil))))))))))), ?_⟩
    have l1 := st.len
    have l2 := cd.len
    have m1 : ∀ x ∈ cs, 0 ≤ x ∧ x ≤ 1000000000000000000000000000000 := fun x hx => st.all x hx
    have m2 : ∀ x ∈ hs, 0 ≤ x ∧ x ≤ 1000000000000000000000000000000 := fun x hx => by have := cd.all x hx; rw [bigE] at this; omega
    refine ⟨.ref a, rfl, .ref b, rfl, a, b, cs, hs, rfl, hA, hB, st, cd, fun H1 s1 => ?_⟩
    refine ⟨⟨_, rfl⟩, .ref a, rfl, a, rfl, ⟨_, s1.seq hA⟩, fun G nG => ?_⟩
    refine lc_list (K := K) (a := a) (xs := cs.map V.int) (fun i H' => Same H1 H' ∧ H' G = some (.lst (((cs.take i).map fun n => SS (numI n)).map V.str))) ⟨same_new _ nG, upd_same⟩ (fun i H' _ p => (s1.trans p.1).seq hA) (fun i x H' e p => ?_) (fun H2 h => ?_)
    · obtain ⟨n, en, rfl⟩ := get_map e
      obtain ⟨sm, eG⟩ := p
      have hn := m1 n (List.mem_of_getElem? en)
      refine ⟨rfl, .int n, rfl, n, rfl, log_big hn.1 hn.2, _, eG, ?_, same_set sm nG, ?_⟩
      · rw [List.length_map, List.length_map, List.length_take]; exact small_of (m := 1000) (by omega) (by decide)
      · rw [upd_same, List.take_add_one, en, List.map_append, List.map_append, str_num hn.1]; rfl
    obtain ⟨sm2, eG⟩ := h
    rw [List.length_map, List.take_length] at eG
    have S2 := s1.trans sm2
    have eY : (cs.map fun n => SS (numI n)) = (cs.map numI).map SS := by rw [List.map_map]; rfl
    rw [eY] at eG
    have z1 := sum_len (ps := cs.map numI) (k := 31) fun p hp => by
      obtain ⟨x, hx, rfl⟩ := List.mem_map.mp hp
      exact numI_len (m1 x hx).2
    rw [List.length_map] at z1
    refine ⟨" ", G, (cs.map numI).map SS, rfl, rfl, .inl (SqL.of eG), ?_, ?_⟩
    · rw [List.length_map, List.length_map]
      show _ + cs.length * 1 ≤ _
      omega
    have eJ : Txt.join (" " : Str) ((cs.map numI).map SS) = SS (TL.joinL [32] (cs.map numI)) := SX.join_S [32] (cs.map numI)
    rw [eJ]
    have zJ := joinL_len (ps := cs.map numI) (k := 31) fun p hp => by
      obtain ⟨x, hx, rfl⟩ := List.mem_map.mp hp
      exact numI_len (m1 x hx).2
    rw [List.length_map] at zJ
    refine ⟨_, rfl, SS (TL.joinL [32] (cs.map numI)), ":", rfl, rfl, ?_, ?_⟩
    · rw [SX.S_len]; exact sizeN (by show _ + 1 ≤ _; omega)
    refine ⟨⟨_, rfl⟩, .ref b, rfl, b, rfl, ⟨_, S2.seq hB⟩, fun R nR => ?_⟩
    refine lc_list (K := K) (a := b) (xs := hs.map V.int) (fun i H' => Same H2 H' ∧ H' R = some (.lst (((hs.take i).map fun n => SS (32 :: numI n)).map V.str))) ⟨same_new _ nR, upd_same⟩ (fun i H' _ p => (S2.trans p.1).seq hB) (fun i x H' e p => ?_) (fun H3 h => ?_)
    · obtain ⟨n, en, rfl⟩ := get_map e
      obtain ⟨sm, eR⟩ := p
      have hn := m2 n (List.mem_of_getElem? en)
      refine ⟨rfl, .int n, rfl, n, rfl, log_big hn.1 hn.2, " ", _, rfl, rfl, ?_, _, eR, ?_, same_set sm nR, ?_⟩
      · have e0 : (SS (numI n)).length = (numI n).length := SX.S_len _
        have := numI_len hn.2
        rw [str_num hn.1]
        exact sizeN (by rw [e0]; show 1 + _ ≤ _; omega)
      · rw [List.length_map, List.length_map, List.length_take]; exact small_of (m := 1000) (by omega) (by decide)
      · rw [upd_same, List.take_add_one, en, List.map_append, List.map_append, str_num hn.1, show (" " : Str) ++ SS (numI n) = SS (32 :: numI n) from SX.S_cat [32] _]; rfl
    obtain ⟨sm3, eR⟩ := h
    rw [List.length_map, List.take_length] at eR
    have eY2 : (hs.map fun n => SS (32 :: numI n)) = (hs.map fun n => 32 :: numI n).map SS := by rw [List.map_map]; rfl
    rw [eY2] at eR
    have z2 := sum_len (ps := hs.map fun n => 32 :: numI n) (k := 32) fun p hp => by
      obtain ⟨x, hx, rfl⟩ := List.mem_map.mp hp
      have := numI_len (m2 x hx).2
      rw [List.length_cons]; omega
    rw [List.length_map] at z2
    have eJ2 : Txt.join ("" : Str) ((hs.map fun n => 32 :: numI n).map SS) = SS (hs.map fun n => 32 :: numI n).flatten := by
      rw [show ("" : Str) = SS [] from rfl, SX.join_S, joinL_nil]
    have zF := fmt_len (cs := cs) (hs := hs) l1.2 l2 (fun x hx => (m1 x hx).2) (fun x hx => (m2 x hx).2)
    unfold fmtL at zF
    rw [List.length_append, List.length_cons] at zF
    refine ⟨"", R, (hs.map fun n => 32 :: numI n).map SS, rfl, rfl, .inl (SqL.of eR), ?_, ?_⟩
    · rw [List.length_map, List.length_map]
      show _ + hs.length * 0 ≤ _
      omega
    rw [eJ2]
    refine ⟨_, _, rfl, rfl, ?_, ?_⟩
    · rw [show SS (TL.joinL [32] (cs.map numI)) ++ (":" : Str) = SS (TL.joinL [32] (cs.map numI) ++ [58]) from SX.S_cat _ _, SX.S_len, SX.S_len, List.length_append]
      exact sizeN (by simp only [List.length_cons, List.length_nil]; omega)
    · rw [show SS (TL.joinL [32] (cs.map numI)) ++ (":" : Str) = SS (TL.joinL [32] (cs.map numI) ++ [58]) from SX.S_cat _ _, SX.S_cat, List.append_assoc]
      exact q H3 (S2.trans sm3)
def spNum : Sp := fun vs H Q _ => ∃ w : List Nat, vs = [.str (SS w)] ∧ w.length ≤ 50000 ∧ ∀ H', Same H H' → Q (.bl (isNum w)) H'
theorem ok_is_numeral (T : Txt K mg) : FnOk P w K mg base CX0 1 T.a_is_numeral T.d_is_numeral ["word"] spNum := by
  refine T.F_is_numeral.ok sc_is_numeral (fun vs H Q E h => ?_) (fun cdv A outer s H vs Q E hr h => ?_)
  · obtain ⟨w, rfl, _⟩ := h; rfl
  · obtain ⟨w, rfl, hw, q⟩ := h
    refine ⟨_, (pss_cons (ps_if (PW.pt (pw_or (pt_cmpR op_eq (pv 0) pe_str (nomark _)) (pw_or1 (pt_cmpR op_gt (pe_callB call_len_str (by rfl) T.z_len (by decide +kernel) (pa_cons (pv 0) pa_nil)) (pe_glob (v := .int 31) (by rfl) T.c_MOST_DIGITS ⟨_, rfl⟩) (nomark _)))))
  (pss_one (ps_ret pe_bl))
  pss_nil)
  (pss_cons (ps_if (PW.pt (pw_and (pt_cmpR op_eq (pe_ix ix_str (pv 0) pe_int (fun _ _ => rfl)) pe_str (nomark _)) (pw_and1 (pt_cmpR op_ne (pv 0) pe_str (nomark _)))))
  (pss_one (ps_ret pe_bl))
  pss_nil)
  (pss_one (ps_ret (pe_callB (cr_all rfl) (by rfl) T.z_all (by decide +kernel) (pa_cons (pe_lc (own := [("sign", 1)]) (te := (tOp rInSg (tVar 1) (tC (.str ("0123456789"))))) rfl sc_is_numeral.nd (pi_str (pv 0)) (blkOk_by (own := [("sign", 1)]) (N := nm_is_numeral) (sc := defScope s_is_numeral) (by decide +kernel)) (fun _ _ _ _ _ => (pg_name (i := 1) sc_is_numeral.nd rfl (.inl rfl))) (fun _ _ _ _ _ => pts_nil) (fun _ _ _ _ _ => (pe_cmpR op_in_sign (pv 1) (pe_glob (v := .str "0123456789") (by rfl) T.c_DIGITS ⟨_, rfl⟩) rfl))) pa_nil)))))), ?_⟩
    refine ⟨.str (SS w), rfl, rfl, _, rfl, ?_⟩
    show if decide (V.str (SS w) = V.str (SS [])) = true then _ else _
    rw [decSS]
    cases w with
    | nil => exact ite_t rfl (q H (Same.refl H))
    | cons c r =>
      refine ite_f (by simp) ⟨.str (SS (c :: r)), rfl, SS (c :: r), rfl, ?_, _, 31, rfl, rfl, _, rfl, ?_⟩
      · rw [SX.S_len]; exact sizeN (by omega)
      rw [SX.S_len]
      by_cases hl : 31 < (c :: r).length
      · refine ite_t (decide_eq_true (show (31 : Int) < _ by omega)) ?_
        have := q H (Same.refl H)
        have e : isNum (c :: r) = false := by
          unfold isNum
          rw [decide_eq_true hl, Bool.or_true]; rfl
        rw [e] at this
        exact this
      · refine ite_f (fun z => by have z := of_decide_eq_true z; have z : (31 : Int) < (((c :: r).length : Nat) : Int) := z; omega) ?_
        have hE : isNum (c :: r) = (!(c == 48 && !((c :: r) == [48])) && (c :: r).all fun c => decide (c ∈ [48, 49, 50, 51, 52, 53, 54, 55, 56, 57])) := by
          unfold isNum
          rw [decide_eq_false hl]; rfl
        rw [hE] at q
        refine nxT ?_
        refine seqJ (fun σ H' => σ = [some (.str (SS (c :: r))), none] ∧ H' = H ∧ (c == 48 && !((c :: r) == [48])) = false) (fun KK => ?_) (fun σ H1 h1 => ?_)
        · refine ⟨.str (SS (c :: r)), rfl, SS (c :: r), 0, c, rfl, rfl, by rw [SX.S_len]; exact sizeN (by omega), atI_nat (j := 0) rfl, rfl, _, rfl, ?_⟩
          show if decide (V.str (SS [c]) = V.str (SS [48])) = true then _ else _
          rw [decSS]
          refine ite2 (fun hc => ?_) (fun hc => KK _ _ ⟨rfl, rfl, ?_⟩)
          · have hc : c = 48 := by have := of_decide_eq_true hc; exact List.head_eq_of_cons_eq this
            refine ⟨.str (SS (c :: r)), rfl, rfl, _, rfl, ?_⟩
            show if (!decide (V.str (SS (c :: r)) = V.str (SS [48]))) = true then _ else _
            rw [decSS]
            by_cases h1 : c :: r = [48]
            · exact ite_f (by rw [decide_eq_true h1]; simp) (KK _ _ ⟨rfl, rfl, by rw [beq_iff_eq.mpr h1]; simp⟩)
            · refine ite_t (by rw [decide_eq_false h1]; rfl) ?_
              have := q H (Same.refl H)
              rw [beq_eq_false_iff_ne.mpr h1, beq_iff_eq.mpr hc] at this
              exact this
          · have : c ≠ 48 := fun z => hc (decide_eq_true (by rw [z]))
            rw [beq_eq_false_iff_ne.mpr this]; rfl
        · obtain ⟨rfl, rfl, h0⟩ := h1
          rw [h0] at q
          refine ⟨.str (SS (c :: r)), rfl, SS (c :: r), rfl, fun D nD => ?_⟩
          refine lc_it walk_str (fun i H' => Same H1 H' ∧ H' D = some (.lst ((((c :: r).take i).map fun c => decide (c ∈ [48, 49, 50, 51, 52, 53, 54, 55, 56, 57])).map V.bl))) ⟨same_new _ nD, upd_same⟩ (fun _ _ _ _ => trivial) (fun i x H' H'' hi p y => ?_) (fun H2 h => ?_)
          · obtain ⟨rfl, d, ed, rfl⟩ := y
            obtain ⟨sm, eD⟩ := p
            have ed2 : (c :: r)[i]? = some d := by
              have : (SS (c :: r)).cps[i]? = (c :: r)[i]? := by simp
              rw [← this]; exact ed
            refine ⟨rfl, _, rfl, d, "0123456789", rfl, rfl, _, eD, ?_, same_set sm nD, ?_⟩
            · rw [List.length_map, List.length_map, List.length_take]; exact small_of (m := 50000) (by omega) (by decide)
            · rw [upd_same, List.take_add_one, ed2, List.map_append, List.map_append]; rfl
          · obtain ⟨sm, eD⟩ := h
            have e3 : (c :: r).take (SS (c :: r)).cps.size = c :: r := List.take_of_length_le (by simp)
            rw [e3] at eD
            refine ⟨D, _, rfl, SqL.of eD, ?_⟩
            have := q H2 sm
            rw [List.all_map]
            exact this
/-- a text that is parsed -/
def spPrs (c : Addr) : Sp := fun vs H Q E => ∃ t : List Nat, vs = [.str (SS t)] ∧ t.length ≤ 12000 ∧ (prsT t = none → ∀ H', Same H H' → E (.ref c) none H') ∧
  ∀ cs hs, prsT t = some (cs, hs) → ∀ H' p a b, Same H H' → H p = none → H a = none → H b = none → a ≠ b → a ≠ p → b ≠ p → H' p = some (.tup [.ref a, .ref b]) → H' a = some (.lst (cs.map V.int)) → H' b = some (.lst (hs.map V.int)) → Q (.ref p) H'
theorem num_val {w : List Nat} (h : isNum w = true) : PySem.intText? (SS w) = some (valI w) ∧ (SS w).length ≤ 640 := by
  unfold isNum at h
  simp only [Bool.and_eq_true, Bool.not_eq_true', Bool.or_eq_false_iff, decide_eq_false_iff_not] at h
  obtain ⟨⟨h1, h2⟩, h3, h4⟩ := h
  have hl : w.length ≤ 31 := by omega
  refine ⟨SX.int_S (List.all_eq_true.mpr fun c hc => ?_) (fun z => by rw [z] at h1; cases h1) (by omega), by rw [SX.S_len]; omega⟩
  have := of_decide_eq_true (List.all_eq_true.mp h4 c hc)
  simp only [List.mem_cons, List.not_mem_nil, or_false] at this
  rw [Bool.and_eq_true]
  exact ⟨decide_eq_true (by omega), decide_eq_true (by omega)⟩
/-- [int(word) for word in words] -/
theorem ints_lc {a D : Addr} {wl : List (List Nat)} {te : TE} {j : Nat} {vs : List Nat} {σ : L2.St} {H : Hp} {Qd : Hp → Prop} (hA : SqL K H a ((wl.map SS).map V.str)) (hn : wl.all isNum = true) (hl : wl.length ≤ 20000) (nD : H D = none)
    (hw : ∀ v, wipe ((wipe σ vs).set j (some v)) vs = wipe σ vs) (ht : ∀ (w : List Nat) (H' : Hp) (Q : VK), PySem.intText? (SS w) = some (valI w) → (SS w).length ≤ 640 → Q (.int (valI w)) H' → te ((wipe σ vs).set j (some (.str (SS w)))) H' Q)
    (k : ∀ H', Same H H' → H' D = some (.lst ((wl.map valI).map V.int)) → Qd H') :
    ∃ W : Nat → Nat → Hp → Prop, (∃ m, W 0 m (upd H D (.lst []))) ∧ ∀ i m H, W i m H →
      ((Itl K a).stop i H ∧ Qd H) ∨ ((Itl K a).go i H ∧ ∃ Nx : Hp → Prop, (∀ H', Nx H' → ∃ m', m' < m ∧ W (i + 1) m' H') ∧ ∀ x H', (Itl K a).yld i H x H' → gName j x (wipe σ vs) H' fun σ2 H2 => wipe σ2 vs = wipe σ vs ∧ tYes σ2 H2 fun b H3 =>
        if b = true then te σ2 H3 fun y H4 => ∃ acc, H4 D = some (.lst acc) ∧ acc.length < sizeLine ∧ Nx (upd H4 D (.lst (acc ++ [y]))) else Nx H3) := by
  refine lc_list (K := K) (a := a) (xs := (wl.map SS).map V.str) (fun i H' => Same H H' ∧ H' D = some (.lst (((wl.take i).map valI).map V.int))) ⟨same_new _ nD, upd_same⟩ (fun i H' _ h => h.1.seq hA) (fun i v H' ev h => ?_) (fun H' h => ?_)
  · obtain ⟨w, ew, rfl⟩ : ∃ w, wl[i]? = some w ∧ v = .str (SS w) := by
      rw [List.map_map, List.getElem?_map] at ev
      cases e : wl[i]? with
      | none => rw [e] at ev; cases ev
      | some w => rw [e] at ev; cases ev; exact ⟨w, rfl, rfl⟩
    obtain ⟨sm, eD⟩ := h
    obtain ⟨v1, v2⟩ := num_val (List.all_eq_true.mp hn w (List.mem_of_getElem? ew))
    refine ⟨hw _, ?_⟩
    show te ((wipe σ vs).set j (some (.str (SS w)))) H' _
    refine ht w _ _ v1 v2 ⟨_, eD, ?_, same_set sm nD, ?_⟩
    · rw [List.length_map, List.length_map, List.length_take]; exact small_of (m := 50000) (by omega) (by decide)
    · rw [upd_same, List.take_add_one, ew, List.map_append, List.map_append]; rfl
  · obtain ⟨sm, eD⟩ := h
    rw [List.length_map, List.length_map, List.take_length] at eD
    exact k H' sm eD
set_option maxHeartbeats 2000000 in
theorem okX_parse_cards (T : Txt K mg) : FnOk P w K mg base (L2.CX P w) 4 T.a_parse_cards T.d_parse_cards ["text"] (spPrs T.a_InvalidFormatError) := by
  refine T.F_parse_cards.okX sc_parse_cards (fun vs H Q E h => ?_) (fun cdv A outer s H vs Q E hr h => ?_)
  · obtain ⟨t, rfl, _⟩ := h; rfl
  · obtain ⟨t, rfl, ht, qE, qS⟩ := h
    refine ⟨_, (pss_cons (ps_if (pt_not (pt_val (pe_callB call_isi (by rfl) T.z_isinstance (by decide +kernel) (pa_cons (pv 0) (pa_cons (pe_bltn (v := .ty "str") (by rfl) T.z_str (by decide +kernel) rfl) pa_nil)))))
  (pss_one (ps_raise rfl (takes_of rfl rfl rfl rfl) (pmk_own PySem.F.excBase_ValueError T.e_InvalidFormatError.ex T.e_InvalidFormatError.g T.e_InvalidFormatError.kp (raises_own T.e_InvalidFormatError.cc.hs T.e_InvalidFormatError.ty) rfl)))
  pss_nil)
  (pss_cons (ps_asg (pe_partition (pv 0) pe_str) (pg_tup rfl (pgs_cons (pg_name (i := 1) sc_parse_cards.nd rfl (.inl rfl)) (pgs_cons (pg_name (i := 2) sc_parse_cards.nd rfl (.inl rfl)) (pgs_cons (pg_name (i := 3) sc_parse_cards.nd rfl (.inl rfl)) pgs_nil)))))
  (pss_cons (ps_set (i := 4) sc_parse_cards.nd rfl (.inl rfl) (pe_split (pv 1) pe_str))
  (pss_cons (ps_asg (pe_split (pv 3) pe_str) (pg_star2 rfl (pgs_cons (pg_name (i := 5) sc_parse_cards.nd rfl (.inl rfl)) (pgs_star (pg_name (i := 6) sc_parse_cards.nd rfl (.inl rfl)) pgs_nil))))
  (pss_cons (ps_if (PW.pt (pw_or (pt_cmpR op_eq (pv 2) pe_str (nomark _)) (pw_or (pt_cmpR op_ne (pv 5) pe_str (nomark _)) (pw_or1 (pt_not (pt_val (pe_callB (cr_all rfl) (by rfl) T.z_all (by decide +kernel) (pa_cons (pe_lc (own := [("word", 9)]) (te := (tCall spNum [] E0 (tCons (tVar 9) tNil))) rfl sc_parse_cards.nd (pi_list (pe_op op_cat (pv 4) (pv 6))) (blkOk_by (own := [("word", 9)]) (N := nm_parse_cards) (sc := defScope s_parse_cards) (by decide +kernel)) (fun _ _ _ _ _ => (pg_name (i := 9) sc_parse_cards.nd rfl (.inl rfl))) (fun _ _ _ _ _ => pts_nil) (fun _ _ _ _ _ => (pe_call (ok_is_numeral T) (hr.mono (by decide)) (by rfl) T.g_is_numeral T.F_is_numeral.kp T.b_is_numeral .nil pass0 (pa_cons (pv 9) pa_nil)))) pa_nil))))))))
  (pss_one (ps_raise rfl (takes_of rfl rfl rfl rfl) (pmk_own PySem.F.excBase_ValueError T.e_InvalidFormatError.ex T.e_InvalidFormatError.g T.e_InvalidFormatError.kp (raises_own T.e_InvalidFormatError.cc.hs T.e_InvalidFormatError.ty) rfl)))
  pss_nil)
  (pss_cons (ps_setLc (i := 7) (own := [("word", 9)]) (te := (tCB rIntS (tCons (tVar 9) tNil))) rfl sc_parse_cards.nd rfl rfl (sw_true rfl rfl rfl (by decide +kernel)) (pi_list (pv 4)) (blkOk_by (own := [("word", 9)]) (N := nm_parse_cards) (sc := defScope s_parse_cards) (by decide +kernel)) (fun _ _ _ _ _ => (pg_name (i := 9) sc_parse_cards.nd rfl (.inl rfl))) (fun _ _ _ _ _ => pts_nil) (fun _ _ _ _ _ => (pe_callTy call_int_str (by rfl) T.z_int (by decide +kernel) (pa_cons (pv 9) pa_nil))))
  (pss_cons (ps_setLc (i := 8) (own := [("word", 9)]) (te := (tCB rIntS (tCons (tVar 9) tNil))) rfl sc_parse_cards.nd rfl rfl (sw_true rfl rfl rfl (by decide +kernel)) (pi_list (pv 6)) (blkOk_by (own := [("word", 9)]) (N := nm_parse_cards) (sc := defScope s_parse_cards) (by decide +kernel)) (fun _ _ _ _ _ => (pg_name (i := 9) sc_parse_cards.nd rfl (.inl rfl))) (fun _ _ _ _ _ => pts_nil) (fun _ _ _ _ _ => (pe_callTy call_int_str (by rfl) T.z_int (by decide +kernel) (pa_cons (pv 9) pa_nil))))
  (pss_cons (ps_if (PW.pt (pw_or (pt_not (pt_val (pe_call (ok_is_startI T) hr (by rfl) T.g_is_start T.F_is_start.kp T.b_is_start .nil pass0 (pa_cons (pv 7) pa_nil)))) (pw_or1 (pt_not (pt_val (pe_call (ok_is_cardsI T) hr (by rfl) T.g_is_cards T.F_is_cards.kp T.b_is_cards .nil pass0 (pa_cons (pv 8) pa_nil)))))))
  (pss_one (ps_raise rfl (takes_of rfl rfl rfl rfl) (pmk_own PySem.F.excBase_ValueError T.e_InvalidFormatError.ex T.e_InvalidFormatError.g T.e_InvalidFormatError.kp (raises_own T.e_InvalidFormatError.cc.hs T.e_InvalidFormatError.ty) rfl)))
  pss_nil)
  (pss_one (ps_ret (pe_tup (pa_cons (pv 7) (pa_cons (pv 8) pa_nil))))))))))))), ?_⟩
    refine ⟨.str (SS t), rfl, .str (SS t), .ty "str", .type "str", .type "str", true, rfl, .ty _, .base (.str _), kit_ty (by decide +kernel), true, rfl, iteF (nxT ?_)⟩
    -- partition
    refine ⟨.str (SS t), rfl, ⟨_, rfl⟩, SS t, ":", rfl, rfl, rfl, by rw [SX.S_len]; exact sizeN (by omega), fun p np => ?_⟩
    obtain ⟨hL, cL, tL, eP, lh, lt, hcase⟩ := part_cases t
    rw [eP]
    have s1 := same_new (H := H) (p := p) (.tup [.str (SS hL), .str (SS cL), .str (SS tL)]) np
    refine ⟨p, [_, _, _], rfl, SqT.of upd_same, rfl, _, [_, _], rfl, _, [_], rfl, _, [], rfl, rfl, ?_⟩
    generalize upd H p _ = H1 at s1 ⊢
    refine nxG ?_
    -- the words
    refine ⟨.str (SS hL), rfl, ⟨_, rfl⟩, SS hL, " ", rfl, rfl, rfl, by rw [SX.S_len]; exact sizeN (by omega), fun W nW => ?_⟩
    rw [split_sp]
    have s2 := same_new (H := H1) (p := W) (.lst (((TL.spl [32] 0 [] hL).map SS).map V.str)) nW
    have eW : (upd H1 W (.lst (((TL.spl [32] 0 [] hL).map SS).map V.str))) W = some (.lst (((TL.spl [32] 0 [] hL).map SS).map V.str)) := upd_same
    generalize upd H1 W _ = H2 at s2 eW ⊢
    refine ⟨.str (SS tL), rfl, ⟨_, rfl⟩, SS tL, " ", rfl, rfl, rfl, by rw [SX.S_len]; exact sizeN (by omega), fun U nU => ?_⟩
    rw [split_sp]
    have lW := spl_len hL []
    have lU := spl_len tL []
    obtain ⟨b0, os, eBO⟩ : ∃ b0 os, TL.spl [32] 0 [] tL = b0 :: os := by
      cases q : TL.spl [32] 0 [] tL with
      | nil => exact absurd q (spl_ne tL [])
      | cons x l => exact ⟨x, l, rfl⟩
    rw [eBO] at lU ⊢
    have lO : os.length ≤ tL.length := by have := lU.1; rw [List.length_cons] at this; omega
    have s3 := same_new (H := H2) (p := U) (.lst (((b0 :: os).map SS).map V.str)) nU
    refine ⟨U, .str (SS b0), (os.map SS).map V.str, rfl, SqL.of upd_same, by rw [List.length_map, List.length_map]; omega, fun D nD => ⟨_, [_], rfl, _, [], rfl, rfl, ?_⟩⟩
    have s4 := s3.trans (same_new (p := D) (.lst ((os.map SS).map V.str)) nD)
    have eD : (upd (upd H2 U (.lst (((b0 :: os).map SS).map V.str))) D (.lst ((os.map SS).map V.str))) D = some (.lst ((os.map SS).map V.str)) := upd_same
    generalize upd (upd H2 U _) D _ = H4 at s4 eD ⊢
    have eW4 := s4 _ _ eW
    have S4 := (s1.trans s2).trans s4
    refine nxG ?_
    -- is it a text of words
    refine ⟨.str (SS cL), rfl, rfl, _, rfl, ?_⟩
    show if decide (V.str (SS cL) = V.str (SS [])) = true then _ else _
    rw [decSS]
    rcases hcase with ⟨rfl, hpar⟩ | ⟨rfl, hpar⟩
    · exact ite_t rfl (qE (by unfold prsT prsL; rw [hpar]) H4 S4)
    refine ite_f (by simp) ⟨.str (SS b0), rfl, rfl, _, rfl, ?_⟩
    show if (!decide (V.str (SS b0) = V.str (SS []))) = true then _ else _
    rw [decSS]
    have hprs : prsL t = if (b0 == [] && (TL.spl [32] 0 [] hL ++ os).all isNum) = true then some (TL.spl [32] 0 [] hL, os) else none := by
      unfold prsL
      rw [hpar]
      show (match TL.spl [32] 0 [] tL with | [] => none | b :: os => _) = _
      rw [eBO]
    by_cases hb0 : b0 = []
    case neg =>
      refine ite_t (by rw [decide_eq_false hb0]; rfl) (qE ?_ H4 S4)
      unfold prsT
      rw [hprs, beq_eq_false_iff_ne.mpr hb0, Bool.false_and, if_neg Bool.false_ne_true]
    subst hb0
    refine ite_f (by simp) ?_
    refine ⟨.ref W, rfl, .ref D, rfl, W, D, _, _, rfl, rfl, eW4, eD, ?_, fun C nC => ⟨C, rfl, ⟨_, SqL.of upd_same⟩, fun L nL => ?_⟩⟩
    · simp only [List.length_map]; exact sizeN (by have := lW.1; omega)
    rw [← List.map_append, ← List.map_append]
    have s5 := same_new (H := H4) (p := C) (.lst (((TL.spl [32] 0 [] hL ++ os).map SS).map V.str)) nC
    have eC : (upd H4 C (.lst (((TL.spl [32] 0 [] hL ++ os).map SS).map V.str))) C = some (.lst (((TL.spl [32] 0 [] hL ++ os).map SS).map V.str)) := upd_same
    rw [← List.map_append, ← List.map_append] at nL
    generalize upd H4 C _ = H5 at s5 eC nL ⊢
    have hwl : ∀ w ∈ TL.spl [32] 0 [] hL ++ os, w.length ≤ 12000 := fun w hw => by
      rcases List.mem_append.mp hw with hw | hw
      · have := lW.2 w hw; simp only [List.length_nil] at this; omega
      · have := lU.2 w (List.mem_cons_of_mem _ hw); simp only [List.length_nil] at this; omega
    have hll : (TL.spl [32] 0 [] hL ++ os).length ≤ 40000 := by rw [List.length_append]; have := lW.1; omega
    generalize hall : TL.spl [32] 0 [] hL ++ os = wl at eC hwl hll hprs
    refine lc_list (K := K) (a := C) (xs := (wl.map SS).map V.str) (fun i H' => Same H5 H' ∧ H' L = some (.lst (((wl.take i).map isNum).map V.bl))) ⟨same_new _ nL, upd_same⟩ (fun i H' _ h => SqL.of (h.1 _ _ eC)) (fun i v H' ev h => ?_) (fun H6 h => ?_)
    · obtain ⟨w, ew, rfl⟩ : ∃ w, wl[i]? = some w ∧ v = .str (SS w) := by
        rw [List.map_map, List.getElem?_map] at ev
        cases e : wl[i]? with
        | none => rw [e] at ev; cases ev
        | some w => rw [e] at ev; cases ev; exact ⟨w, rfl, rfl⟩
      obtain ⟨sm, eL⟩ := h
      refine ⟨rfl, .str (SS w), rfl, w, rfl, by have := hwl w (List.mem_of_getElem? ew); omega, fun H7 s7 => ⟨_, s7 _ _ eL, ?_, same_set (sm.trans s7) nL, ?_⟩⟩
      · rw [List.length_map, List.length_map, List.length_take]; exact small_of (m := 50000) (by omega) (by decide)
      · rw [upd_same, List.take_add_one, ew, List.map_append, List.map_append]; rfl
    obtain ⟨sm, eL⟩ := h
    rw [List.length_map, List.length_map, List.take_length] at eL
    have S6 := S4.trans (s5.trans sm)
    refine ⟨L, _, rfl, SqL.of eL, _, rfl, ?_⟩
    have eAll : (wl.map isNum).all id = wl.all isNum := by rw [List.all_map]; rfl
    by_cases hA : wl.all isNum = true
    case neg =>
      refine ite_t (by rw [eAll, eq_false_of_ne_true hA]; rfl) (qE ?_ H6 S6)
      unfold prsT
      rw [hprs, if_neg (by simpa using hA)]
    refine ite_f (by rw [eAll, hA]; simp) (nxT ?_)
    rw [show ((([] : List Nat) == []) && wl.all isNum) = true by rw [hA]; rfl, if_pos rfl] at hprs
    have hA1 : (TL.spl [32] 0 [] hL).all isNum = true ∧ os.all isNum = true := by
      rw [← hall, List.all_append, Bool.and_eq_true] at hA
      exact hA
    have eW6 := (s5.trans sm) _ _ eW4
    have eD6 := (s5.trans sm) _ _ eD
    refine ⟨.ref W, rfl, W, rfl, ⟨_, SqL.of eW6⟩, fun A1 nA1 => ?_⟩
    refine ints_lc (SqL.of eW6) hA1.1 (by have := lW.1; omega) nA1 (fun v => rfl) (fun w H' Q' v1 v2 h => ⟨_, rfl, _, _, rfl, v1, v2, h⟩) (fun H7 s7 eA1 => ?_)
    have eD7 := s7 _ _ eD6
    refine ⟨.ref D, rfl, D, rfl, ⟨_, SqL.of eD7⟩, fun A2 nA2 => ?_⟩
    refine ints_lc (SqL.of eD7) hA1.2 (by omega) nA2 (fun v => rfl) (fun w H' Q' v1 v2 h => ⟨_, rfl, _, _, rfl, v1, v2, h⟩) (fun H8 s8 eA2 => ?_)
    have eA1' := s8 _ _ eA1
    have n12 : A1 ≠ A2 := ne_of_none eA1 nA2
    have S7 := S6.trans s7
    have S8 := S7.trans s8
    generalize hws : TL.spl [32] 0 [] hL = ws at hprs eA1' lW
    have hp2 : prsT t = if (okSt (ws.map valI) && okCd (os.map valI)) = true then some (ws.map valI, os.map valI) else none := by unfold prsT; rw [hprs]
    refine ⟨.ref A1, rfl, A1, _, rfl, SqL.of eA1', by rw [List.length_map]; have := lW.1; omega, fun H9 s9 => ⟨_, rfl, ?_⟩⟩
    cases h1 : okSt (ws.map valI) with
    | false =>
      refine ite_t rfl (qE (by rw [hp2, h1]; rfl) H9 (S8.trans s9))
    | true =>
      refine ite_f (by simp) ⟨.ref A2, rfl, A2, _, rfl, SqL.of (s9 _ _ eA2), by rw [List.length_map]; omega, fun H10 s10 => ⟨_, rfl, ?_⟩⟩
      cases h2 : okCd (os.map valI) with
      | false => exact ite_t rfl (qE (by rw [hp2, h1, h2]; rfl) H10 ((S8.trans s9).trans s10))
      | true =>
        rw [h1, h2] at hp2
        refine ite_f (by simp) (nxT ⟨.ref A1, rfl, .ref A2, rfl, (by show 2 ≤ sizeLine; decide), fun PP nPP => ?_⟩)
        have s11 := (s9.trans s10).trans (same_new (H := H10) (p := PP) (.tup [.ref A1, .ref A2]) nPP)
        have S10 := S8.trans (s9.trans s10)
        refine qS _ _ hp2 _ PP A1 A2 (S8.trans s11) (S10.free nPP) (S6.free nA1) (S7.free nA2) n12 (ne_of_none ((s9.trans s10) _ _ eA1') nPP) (ne_of_none ((s9.trans s10) _ _ eA2) nPP) upd_same (s11 _ _ eA1') (s11 _ _ eA2)
def spPrs0 : Sp := fun vs H Q _ => ∃ (t : List Nat) (cs hs : List Int), vs = [.str (SS t)] ∧ t.length ≤ 12000 ∧ prsT t = some (cs, hs) ∧
  ∀ H' p a b, Same H H' → H p = none → H a = none → H b = none → a ≠ b → a ≠ p → b ≠ p → H' p = some (.tup [.ref a, .ref b]) → H' a = some (.lst (cs.map V.int)) → H' b = some (.lst (hs.map V.int)) → Q (.ref p) H'
theorem ok_parse_cards (T : Txt K mg) : FnOk P w K mg base CX0 4 T.a_parse_cards T.d_parse_cards ["text"] spPrs0 :=
  (FnOk.toX0 (okX_parse_cards T)).imp fun vs H Q E ⟨t, cs, hs, e, hl, hp, q⟩ => ⟨t, e, hl, (fun z => by rw [hp] at z; cases z), fun cs' hs' hp' => by
    rw [hp] at hp'
    have e := Option.some.inj hp'
    have e1 : cs = cs' := congrArg Prod.fst e
    have e2 : hs = hs' := congrArg Prod.snd e
    subst e1 e2
    exact q⟩
end

section
variable {P : Program} {w : World} {K : PySem.W.Frag} {mg : Str → Option Value} {base : Heap}
/-- a source of at most n draws so far -/
def Src (H : Hp) (a : Addr) (n : Int) : Prop := ∃ p0 p1 p2 : Int, H a = some (.lst [.int p0, .int p1, .int p2]) ∧ 0 ≤ p0 ∧ 0 ≤ p1 ∧ p1 ≤ 1000000000000000000000000000000000000000000000000000000000000000 ∧ 0 ≤ p2 ∧ p2 ≤ n
theorem Src.mono {H : Hp} {a : Addr} {n m : Int} (h : Src H a n) (l : n ≤ m) : Src H a m := by
  obtain ⟨p0, p1, p2, e, h0, h1, h2, h3, h4⟩ := h
  exact ⟨p0, p1, p2, e, h0, h1, h2, h3, by omega⟩
theorem Src.same {H H' : Hp} {a : Addr} {n : Int} (h : Src H a n) (s : Same H H') : Src H' a n := by
  obtain ⟨p0, p1, p2, e, r⟩ := h
  exact ⟨p0, p1, p2, s _ _ e, r⟩
theorem Src.at {H : Hp} {a : Addr} {n : Int} (h : Src H a n) : ∃ o, H a = some o := by
  obtain ⟨_, _, _, e, _⟩ := h
  exact ⟨_, e⟩
theorem Src.ne {H : Hp} {a p : Addr} {n : Int} (h : Src H a n) (np : H p = none) : p ≠ a := fun z => by
  obtain ⟨o, eo⟩ := h.at
  rw [z] at np; rw [np] at eo; cases eo
theorem Src.upd {H : Hp} {a D : Addr} {o : HO} {n : Int} (h : Src H a n) (ne : a ≠ D) : Src (L2.upd H D o) a n := by
  obtain ⟨p0, p1, p2, e, r⟩ := h
  exact ⟨p0, p1, p2, by rw [upd_ne ne]; exact e, r⟩
theorem big_ab {r : Int} (h : -10 ≤ r) (h1 : r ≤ big) : r.natAbs < 10 ^ 90 := by
  have h' : r ≤ 1000000000000000000000000000000 := h1
  have e : (10 : Nat) ^ 40 = 10000000000000000000000000000000000000000 := by decide +kernel
  have h3 : r.natAbs < 10 ^ 40 := by rw [e]; omega
  exact Nat.lt_of_lt_of_le h3 (Nat.pow_le_pow_right (by decide) (by decide))
theorem le_big {r : Int} (h : r ≤ 1000000000000000000000000000000) : r ≤ big := h
theorem but_set {a D : Addr} {H H' : Hp} {o : HO} (b : But a H H') (n : H D = none) : But a H (L2.upd H' D o) := fun c u nc e => by
  rw [upd_ne (ne_of_none e n)]
  exact b _ _ nc e
theorem But.free {H H' : Hp} {a D : Addr} {n : Int} (b : But a H H') (p : Src H' a n) (nD : H' D = none) : H D = none := by
  cases e : H D with
  | none => rfl
  | some u =>
    have : D ≠ a := p.ne nD
    rw [b _ _ this e] at nD; cases nD
theorem fmod_lt {i j : Int} (h : 0 < j) : 0 ≤ i.fmod j ∧ i.fmod j < j := by
  rw [Int.fmod_eq_emod_of_nonneg i (by omega)]
  exact ⟨Int.emod_nonneg i (by omega), Int.emod_lt_of_pos i h⟩
theorem atI_pick {xs : List V} {r : Int} (h0 : 0 ≤ r) (h1 : r < xs.length) : ∃ v ∈ xs, atI xs r = some v := by
  obtain ⟨k, rfl⟩ := Int.eq_ofNat_of_zero_le h0
  have hk : k < xs.length := by omega
  exact ⟨xs[k], List.getElem_mem hk, atI_nat (List.getElem?_eq_getElem hk)⟩
theorem pick_int {ns : List Int} {r lo hi : Int} (h0 : 0 ≤ r) (h1 : r < ns.length) (hb : ∀ n ∈ ns, lo ≤ n ∧ n ≤ hi) : ∃ m, atI (ns.map V.int) r = some (.int m) ∧ lo ≤ m ∧ m ≤ hi := by
  obtain ⟨v, hv, e⟩ := atI_pick (xs := ns.map V.int) h0 (by rw [List.length_map]; exact h1)
  obtain ⟨m, hm, rfl⟩ := List.mem_map.mp hv
  exact ⟨m, e, hb m hm⟩
/-- a new list of drawn heights so far -/
def PvD (a D : Addr) (H0 : Hp) (n lo hi : Int) (i : Nat) (H' : Hp) : Prop :=
  ∃ bs : List Int, But a H0 H' ∧ Src H' a (n + 10 * i) ∧ H' D = some (.lst (bs.map V.int)) ∧ bs.length = i ∧ ∀ b ∈ bs, lo ≤ b ∧ b ≤ hi
theorem PvD.start {a D : Addr} {H0 : Hp} {n lo hi : Int} (hP : Src H0 a n) (nD : H0 D = none) : PvD a D H0 n lo hi 0 (L2.upd H0 D (.lst [])) :=
  ⟨[], But.of (same_new _ nD), (hP.same (same_new _ nD)).mono (by omega), upd_same, rfl, fun b h => by cases h⟩
theorem PvD.step {a D : Addr} {H0 H' H4 : Hp} {n lo hi y : Int} {i : Nat} (h : PvD a D H0 n lo hi i H') (hP : Src H0 a n) (nD : H0 D = none) (hi' : i ≤ 1000) (b : But a H' H4) (p : Src H4 a (n + 10 * i + 10)) (h1 : lo ≤ y) (h2 : y ≤ hi) :
    ∃ acc, H4 D = some (.lst acc) ∧ acc.length < sizeLine ∧ PvD a D H0 n lo hi (i + 1) (L2.upd H4 D (.lst (acc ++ [.int y]))) := by
  obtain ⟨bs, b0, p0, e, l, al⟩ := h
  have nDa : D ≠ a := hP.ne nD
  refine ⟨_, b _ _ nDa e, ?_, bs ++ [y], but_set (b0.trans b) nD, (p.upd nDa.symm).mono (by omega), ?_, by rw [List.length_append, l]; rfl, fun z hz => ?_⟩
  · rw [List.length_map, l]; exact small_of (m := 1000) hi' (by decide)
  · rw [upd_same, List.map_append]; rfl
  · rcases List.mem_append.mp hz with hz | hz
    · exact al z hz
    · rw [List.mem_singleton.mp hz]; exact ⟨h1, h2⟩
end

section
variable {P : Program} {w : World} {K : PySem.W.Frag} {mg : Str → Option Value} {base : Heap}
theorem e36 : ((10 : Int) ^ (36 : Int).toNat + 67) = 1000000000000000000000000000000000067 := by decide +kernel
theorem e39 : ((10 : Int) ^ (39 : Int).toNat + 3) = 1000000000000000000000000000000000000003 := by decide +kernel
theorem e37 : ((10 : Int) ^ (37 : Int).toNat + 43) = 10000000000000000000000000000000000043 := by decide +kernel
def spSource : Sp := fun vs H Q _ => ∃ c k : Int, vs = [.int c, .int k] ∧ 0 ≤ k ∧ k ≤ 100 ∧ ∀ p H', H p = none → Same H H' → Src H' p 0 → Q (.ref p) H'
theorem ok_law_source (T : Txt K mg) : FnOk P w K mg base CX0 1 T.a_law_source T.d_law_source ["cell", "k"] spSource := by
  refine T.F_law_source.ok sc_law_source (fun vs H Q E h => ?_) (fun cdv A outer s H vs Q E hr h => ?_)
  · obtain ⟨c, k, rfl, _⟩ := h; rfl
  · obtain ⟨c, k, rfl, k0, k1, q⟩ := h
    refine ⟨_, (pss_one (ps_ret (pe_lst (pa_cons (pe_callB (call_max2 rfl) (by rfl) T.z_max (by decide +kernel) (pa_cons pe_int (pa_cons (pe_op op_sub (pv 0) (pe_op op_powW pe_int pe_int)) pa_nil))) (pa_cons (pe_op op_add (pe_op op_mulW (pe_op op_modN (pv 0) (pe_op op_add (pe_op op_powW pe_int pe_int) pe_int)) pe_int) (pv 1)) (pa_cons pe_int pa_nil)))))), ?_⟩
    have hm := fmod_lt (i := c) (j := 10 ^ (36 : Int).toNat + 67) (by rw [e36]; decide)
    refine ⟨.int c, rfl, 10, 18, rfl, rfl, ⟨by decide, by decide⟩, c, _, rfl, rfl, _, _, rfl, .int c, rfl, 10, 36, rfl, rfl, ⟨by decide, by decide⟩, _, 67, rfl, rfl, c, _, rfl, rfl, (by show _ ≠ (0 : Int); rw [e36]; decide), _, 89, rfl, rfl, ?_, .int k, rfl, _, k, rfl, rfl, (by show 3 ≤ sizeLine; decide), fun p np => ?_⟩
    · rw [e36] at hm
      exact wide_mul (a := 200) (b := 20) (by
        have e : (2 : Nat) ^ 200 = 1606938044258990275541962092341162602522202993782792835301376 := by decide +kernel
        rw [e, e36]; omega) (by decide) (by decide) (by decide) (by decide)
    · rw [e36] at hm
      refine q p _ np (same_new _ np) ⟨_, _, 0, upd_same, ?_, ?_, ?_, by decide, by decide⟩
      · show 0 ≤ (if (c - 10 ^ (18 : Int).toNat) > 0 then (c - 10 ^ (18 : Int).toNat) else (0 : Int))
        split <;> omega
      · rw [e36]; omega
      · rw [e36]; omega
def mixA (p1 p2 : Int) : Int := ((p1 + 800534 * (p2 + 1)) ^ (3 : Int).toNat).fmod (10 ^ (39 : Int).toNat + 3)
def mixB (p1 p2 : Int) : Int := ((mixA p1 p2 + 67 * (p2 + 1)) ^ (3 : Int).toNat).fmod (10 ^ (37 : Int).toNat + 43)
theorem p104 : (2 : Nat) ^ 104 = 20282409603651670423947251286016 := by decide +kernel
def spDraw : Sp := fun vs H Q _ => ∃ (a : Addr) (m n : Int), vs = [.ref a, .int m] ∧ Src H a n ∧ n ≤ 1000000 ∧ 1 ≤ m ∧ m ≤ 10000000000000000000000000000000 ∧ ∀ r H', But a H H' → Src H' a (n + 1) → 0 ≤ r → r < m → Q (.int r) H'
theorem ok_law_draw (T : Txt K mg) : FnOk P w K mg base CX0 1 T.a_law_draw T.d_law_draw ["source", "count"] spDraw := by
  refine T.F_law_draw.ok sc_law_draw (fun vs H Q E h => ?_) (fun cdv A outer s H vs Q E hr h => ?_)
  · obtain ⟨a, m, n, rfl, _⟩ := h; rfl
  · obtain ⟨a, m, n, rfl, ⟨p0, p1, p2, e, h0, h1, h2, h3, h4⟩, hn, m1, m2, q⟩ := h
    refine ⟨_, (pss_cons (ps_if (pt_cmpR op_gt (pe_ix ix_list (pv 0) pe_int (fun _ _ => rfl)) pe_int (nomark _))
  (pss_cons (ps_set (i := 2) sc_law_draw.nd rfl (.inl rfl) (pe_op op_modN (pe_ix ix_list (pv 0) pe_int (fun _ _ => rfl)) (pv 1)))
  (pss_cons (ps_asg (pe_op op_fdivW (pe_ix ix_list (pv 0) pe_int (fun _ _ => rfl)) (pv 1)) (pg_sub (pv 0) pe_int set_list))
  (pss_one (ps_ret (pv 2)))))
  pss_nil)
  (pss_cons (ps_asg (pe_op op_add (pe_ix ix_list (pv 0) pe_int (fun _ _ => rfl)) pe_int) (pg_sub (pv 0) pe_int set_list))
  (pss_cons (ps_set (i := 3) sc_law_draw.nd rfl (.inl rfl) (pe_op op_modN (pe_op op_powW (pe_op op_add (pe_ix ix_list (pv 0) pe_int (fun _ _ => rfl)) (pe_op op_mulW pe_int (pe_ix ix_list (pv 0) pe_int (fun _ _ => rfl)))) pe_int) (pe_op op_add (pe_op op_powW pe_int pe_int) pe_int)))
  (pss_cons (ps_set (i := 3) sc_law_draw.nd rfl (.inl rfl) (pe_op op_modN (pe_op op_powW (pe_op op_add (pv 3) (pe_op op_mulW pe_int (pe_ix ix_list (pv 0) pe_int (fun _ _ => rfl)))) pe_int) (pe_op op_add (pe_op op_powW pe_int pe_int) pe_int)))
  (pss_one (ps_ret (pe_op op_modN (pe_op op_fdivW (pv 3) pe_int) (pv 1)))))))), ?_⟩
    have ebig : (2 : Nat) ^ 400 = 2582249878086908589655919172003011874329705792829223512830659356540647622016841194629645353280137831435903171972747493376 := by decide +kernel
    refine ⟨.ref a, rfl, a, _, 0, .int p0, rfl, rfl, SqL.of e, rfl, p0, 0, rfl, rfl, _, rfl, ite2 (fun hc => ?_) (fun hc => ?_)⟩
    · -- the cell's own digits
      have hm := fmod_lt (i := p0) (j := m) (by omega)
      refine ⟨.ref a, rfl, a, _, 0, .int p0, rfl, rfl, SqL.of e, rfl, .int m, rfl, p0, m, rfl, rfl, (by show m ≠ 0; omega), ?_⟩
      refine ⟨.ref a, rfl, a, _, 0, .int p0, rfl, rfl, SqL.of e, rfl, .int m, rfl, p0, m, rfl, rfl, fdivW (by omega) (by omega), .ref a, rfl, a, _, 0, 0, rfl, rfl, e, rfl, ?_⟩
      exact ⟨_, rfl, q _ _ (But.upd _ _ _) ⟨p0 / m, p1, p2, upd_same, Int.ediv_nonneg h0 (by omega), h1, h2, h3, by omega⟩ hm.1 hm.2⟩
    · refine ⟨.ref a, rfl, a, _, 2, .int p2, rfl, rfl, SqL.of e, rfl, p2, 1, rfl, rfl, .ref a, rfl, a, _, 2, 2, rfl, rfl, e, rfl, ?_⟩
      have e1 : (L2.upd H a (.lst [.int p0, .int p1, .int (p2 + 1)])) a = some (.lst [.int p0, .int p1, .int (p2 + 1)]) := upd_same
      refine ⟨.ref a, rfl, a, _, 1, .int p1, rfl, rfl, SqL.of e1, rfl, .ref a, rfl, a, _, 2, .int (p2 + 1), rfl, rfl, SqL.of e1, rfl, 800534, p2 + 1, rfl, rfl, ?_, p1, _, rfl, rfl, _, 3, rfl, rfl, ?_, 10, 39, rfl, rfl, ⟨by decide, by decide⟩, _, 3, rfl, rfl, _, _, rfl, rfl, (by show _ ≠ (0 : Int); rw [e39]; decide), ?_⟩
      · exact wide_mul (a := 60) (b := 60) (by decide) (by omega) (by decide) (by decide) (by decide)
      · refine ⟨by decide, ?_⟩
        have := bits_le (x := p1 + 800534 * (p2 + 1)) (b := 400) (by rw [ebig]; omega) (by decide)
        omega
      · have hs : 0 ≤ mixA p1 p2 ∧ mixA p1 p2 < 10 ^ (39 : Int).toNat + 3 := fmod_lt (by rw [e39]; decide)
        rw [e39] at hs
        refine ⟨.int (mixA p1 p2), rfl, .ref a, rfl, a, _, 2, .int (p2 + 1), rfl, rfl, SqL.of e1, rfl, 67, p2 + 1, rfl, rfl, ?_, mixA p1 p2, _, rfl, rfl, _, 3, rfl, rfl, ?_, 10, 37, rfl, rfl, ⟨by decide, by decide⟩, _, 43, rfl, rfl, _, _, rfl, rfl, (by show _ ≠ (0 : Int); rw [e37]; decide), ?_⟩
        · exact wide_mul (a := 60) (b := 60) (by decide) (by omega) (by decide) (by decide) (by decide)
        · refine ⟨by decide, ?_⟩
          have := bits_le (x := mixA p1 p2 + 67 * (p2 + 1)) (b := 400) (by rw [ebig]; omega) (by decide)
          omega
        · have hm := fmod_lt (i := mixB p1 p2 / 65609) (j := m) (by omega)
          refine ⟨.int (mixB p1 p2), rfl, mixB p1 p2, 65609, rfl, rfl, fdivW (by decide) (by decide), .int m, rfl, _, m, rfl, rfl, (by show m ≠ 0; omega), ?_⟩
          exact q _ _ (But.upd _ _ _) ⟨p0, p1, p2 + 1, e1, h0, h1, h2, by omega, by omega⟩ hm.1 hm.2
end

section
variable {P : Program} {w : World} {K : PySem.W.Frag} {mg : Str → Option Value} {base : Heap}
theorem eb30 : ((10 : Int) ^ (30 : Int).toNat) = 1000000000000000000000000000000 := by decide +kernel
theorem PvD.done {a D : Addr} {H0 H' : Hp} {n lo hi : Int} {i : Nat} (h : PvD a D H0 n lo hi i H') : ∃ bs : List Int, But a H0 H' ∧ Src H' a (n + 10 * i) ∧ H' D = some (.lst (bs.map V.int)) ∧ bs.length = i ∧ ∀ b ∈ bs, lo ≤ b ∧ b ≤ hi := h
def spStartW : Sp := fun vs H Q _ => ∃ (a : Addr) (m n : Int), vs = [.ref a, .int m] ∧ Src H a n ∧ n ≤ 900000 ∧ 1 ≤ m ∧ m ≤ 30 ∧
  ∀ p H' (bs : List Int), H p = none → But a H H' → Src H' a (n + 500) → H' p = some (.lst (bs.map V.int)) → IsStart bs → Q (.ref p) H'
theorem ok_law_start (T : Txt K mg) : FnOk P w K mg base CX0 2 T.a_law_start T.d_law_start ["source", "most"] spStartW := by
  refine T.F_law_start.ok sc_law_start (fun vs H Q E h => ?_) (fun cdv A outer s0 H vs Q E hr h => ?_)
  · obtain ⟨a, m, n, rfl, _⟩ := h; rfl
  · obtain ⟨a, m, n, rfl, hP, hn, m0, m1, q⟩ := h
    refine ⟨_, (pss_cons (ps_set (i := 2) sc_law_start.nd rfl (.inl rfl) (pe_ix ix_list (pe_lst (pa_cons (pe_op op_add pe_int (pe_call (ok_law_draw T) hr (by rfl) T.g_law_draw T.F_law_draw.kp T.b_law_draw .nil pass0 (pa_cons (pv 0) (pa_cons (pv 1) pa_nil)))) (pa_cons (pe_op op_add pe_int (pe_call (ok_law_draw T) hr (by rfl) T.g_law_draw T.F_law_draw.kp T.b_law_draw .nil pass0 (pa_cons (pv 0) (pa_cons (pe_callB (call_min2 rfl) (by rfl) T.z_min (by decide +kernel) (pa_cons (pv 1) (pa_cons pe_int pa_nil))) pa_nil)))) (pa_cons (pv 1) pa_nil)))) (pe_call (ok_law_draw T) hr (by rfl) T.g_law_draw T.F_law_draw.kp T.b_law_draw .nil pass0 (pa_cons (pv 0) (pa_cons pe_int pa_nil))) (fun _ _ => rfl)))
  (pss_cons (ps_set (i := 3) sc_law_start.nd rfl (.inr rfl) (pe_ix ix_list (pe_lst (pa_cons pe_int (pa_cons pe_int (pa_cons pe_int (pa_cons (pe_op op_add (pe_op op_powW pe_int pe_int) pe_int) pa_nil))))) (pe_call (ok_law_draw T) hr (by rfl) T.g_law_draw T.F_law_draw.kp T.b_law_draw .nil pass0 (pa_cons (pv 0) (pa_cons pe_int pa_nil))) (fun _ _ => rfl)))
  (pss_one (ps_ret (pe_lc (own := [("step", 4)]) (te := (tCall spDraw [] E0 (tCons (tVar 0) (tCons (tVar 3) tNil)))) rfl sc_law_start.nd (pi_range1 (by rfl) T.z_range (pa_cons (pv 2) pa_nil)) (blkOk_by (own := [("step", 4)]) (N := nm_law_start) (sc := defScope s_law_start) (by decide +kernel)) (fun _ _ _ _ _ => (pg_name (i := 4) sc_law_start.nd rfl (.inl rfl))) (fun _ _ _ _ _ => pts_nil) (fun _ _ _ _ _ => (pe_call (ok_law_draw T) hr (by rfl) T.g_law_draw T.F_law_draw.kp T.b_law_draw .nil pass0 (pa_cons (pv 0) (pa_cons (pv 3) pa_nil))))))))), ?_⟩
    refine ⟨.ref a, rfl, .int m, rfl, a, m, n, rfl, hP, by omega, m0, by omega, fun r1 H2 b2 p2 r10 r11 => ⟨1, r1, rfl, rfl, ?_⟩⟩
    refine ⟨.ref a, rfl, .int m, rfl, m, 4, rfl, a, _, _, rfl, p2, by omega, ?_, ?_, fun r2 H3 b3 p3 r20 r21 => ⟨1, r2, rfl, rfl, .int m, rfl, (by show 3 ≤ sizeLine; decide), fun o3 n3 => ?_⟩⟩
    · split <;> omega
    · split <;> omega
    have r21' : r2 < 4 := by
      revert r21
      split <;> intro r21 <;> omega
    have r21'' : r2 < m := by
      revert r21
      split <;> intro r21 <;> omega
    have s3 := same_new (H := H3) (p := o3) (.lst [.int (1 + r1), .int (1 + r2), .int m]) n3
    refine ⟨.ref a, rfl, a, 3, _, rfl, p3.same s3, by omega, by decide, by decide, fun r3 H4 b4 p4 r30 r31 => ?_⟩
    obtain ⟨k, em, k0, k1⟩ := pick_int (ns := [1 + r1, 1 + r2, m]) (lo := 1) (hi := 30) r30 r31 (fun z hz => by
      simp only [List.mem_cons, List.not_mem_nil, or_false] at hz
      rcases hz with rfl | rfl | rfl <;> omega)
    refine ⟨o3, _, _, .int k, rfl, rfl, SqL.of (b4 _ _ (p3.ne n3) upd_same), em, ?_⟩
    have B4 : But a H H4 := (b2.trans b3).trans ((But.of s3).trans b4)
    -- wide
    refine ⟨10, 30, rfl, rfl, ⟨by decide, by decide⟩, _, 1, rfl, rfl, (by show 4 ≤ sizeLine; decide), fun o5 n5 => ?_⟩
    have s5 := same_new (H := H4) (p := o5) (.lst [.int 1, .int 4, .int 40, .int (10 ^ (30 : Int).toNat + 1)]) n5
    refine ⟨.ref a, rfl, a, 4, _, rfl, p4.same s5, by omega, by decide, by decide, fun r5 H6 b6 p6 r50 r51 => ?_⟩
    obtain ⟨wd, ew, w0, w1⟩ := pick_int (ns := [1, 4, 40, 10 ^ (30 : Int).toNat + 1]) (lo := 1) (hi := 1000000000000000000000000000001) r50 r51 (fun z hz => by
      simp only [List.mem_cons, List.not_mem_nil, or_false] at hz
      rw [eb30] at hz
      rcases hz with rfl | rfl | rfl | rfl <;> omega)
    refine ⟨o5, _, _, .int wd, rfl, rfl, SqL.of (b6 _ _ (p4.ne n5) upd_same), ew, ?_⟩
    have B6 : But a H H6 := B4.trans ((But.of s5).trans b6)
    have P6 : Src H6 a (n + 6) := p6.mono (by omega)
    refine ⟨.int k, rfl, k, rfl, by omega, by omega, fun D nD => ?_⟩
    refine lc_range (lo := 0) (n := k.toNat) (PvD a D H6 (n + 6) 0 big) (PvD.start P6 nD) (fun i H' hi h => ⟨rfl, ?_⟩) (fun H' h => ?_)
    · have h' := h
      obtain ⟨bs, b0, p0, e, l, al⟩ := h
      exact ⟨.ref a, rfl, .int wd, rfl, a, wd, _, rfl, p0, by omega, w0, by omega, fun r H4 b p r0 r1 => h'.step P6 nD (by omega) b (p.mono (by omega)) r0 (le_big (by omega))⟩
    · obtain ⟨bs, b0, p0, e, l, al⟩ := h
      exact q D H' bs (But.free B6 P6 nD) (B6.trans b0) (p0.mono (by omega)) e ⟨by omega, al⟩
def spCardsW : Sp := fun vs H Q _ => ∃ (a : Addr) (m n : Int), vs = [.ref a, .int m] ∧ Src H a n ∧ n ≤ 900000 ∧ 1 ≤ m ∧ m ≤ 200 ∧
  ∀ p H' (bs : List Int), H p = none → But a H H' → Src H' a (n + 3000) → H' p = some (.lst (bs.map V.int)) → IsCards bs → Q (.ref p) H'
theorem ok_law_cards (T : Txt K mg) : FnOk P w K mg base CX0 2 T.a_law_cards T.d_law_cards ["source", "most"] spCardsW := by
  refine T.F_law_cards.ok sc_law_cards (fun vs H Q E h => ?_) (fun cdv A outer s0 H vs Q E hr h => ?_)
  · obtain ⟨a, m, n, rfl, _⟩ := h; rfl
  · obtain ⟨a, m, n, rfl, hP, hn, m0, m1, q⟩ := h
    refine ⟨_, (pss_cons (ps_set (i := 2) sc_law_cards.nd rfl (.inl rfl) (pe_ix ix_list (pe_lst (pa_cons (pe_call (ok_law_draw T) hr (by rfl) T.g_law_draw T.F_law_draw.kp T.b_law_draw .nil pass0 (pa_cons (pv 0) (pa_cons (pe_op op_add (pv 1) pe_int) pa_nil))) (pa_cons (pe_call (ok_law_draw T) hr (by rfl) T.g_law_draw T.F_law_draw.kp T.b_law_draw .nil pass0 (pa_cons (pv 0) (pa_cons (pe_op op_add (pe_callB (call_min2 rfl) (by rfl) T.z_min (by decide +kernel) (pa_cons (pv 1) (pa_cons pe_int pa_nil))) pe_int) pa_nil))) (pa_cons (pv 1) pa_nil)))) (pe_call (ok_law_draw T) hr (by rfl) T.g_law_draw T.F_law_draw.kp T.b_law_draw .nil pass0 (pa_cons (pv 0) (pa_cons pe_int pa_nil))) (fun _ _ => rfl)))
  (pss_cons (ps_set (i := 3) sc_law_cards.nd rfl (.inr rfl) (pe_ix ix_list (pe_lst (pa_cons pe_int (pa_cons pe_int (pa_cons pe_int (pa_cons (pe_op op_powW pe_int pe_int) pa_nil))))) (pe_call (ok_law_draw T) hr (by rfl) T.g_law_draw T.F_law_draw.kp T.b_law_draw .nil pass0 (pa_cons (pv 0) (pa_cons pe_int pa_nil))) (fun _ _ => rfl)))
  (pss_one (ps_ret (pe_lc (own := [("step", 4)]) (te := (tOp (rI0 fun i j => .int (i + j)) (tC (.int 1)) (tCall spDraw [] E0 (tCons (tVar 0) (tCons (tVar 3) tNil))))) rfl sc_law_cards.nd (pi_range1 (by rfl) T.z_range (pa_cons (pv 2) pa_nil)) (blkOk_by (own := [("step", 4)]) (N := nm_law_cards) (sc := defScope s_law_cards) (by decide +kernel)) (fun _ _ _ _ _ => (pg_name (i := 4) sc_law_cards.nd rfl (.inl rfl))) (fun _ _ _ _ _ => pts_nil) (fun _ _ _ _ _ => (pe_op op_add pe_int (pe_call (ok_law_draw T) hr (by rfl) T.g_law_draw T.F_law_draw.kp T.b_law_draw .nil pass0 (pa_cons (pv 0) (pa_cons (pv 3) pa_nil)))))))))), ?_⟩
    refine ⟨.ref a, rfl, .int m, rfl, m, 1, rfl, rfl, a, _, n, rfl, hP, by omega, by omega, by omega, fun r1 H2 b2 p2 r10 r11 => ?_⟩
    refine ⟨.ref a, rfl, .int m, rfl, m, 9, rfl, _, 1, rfl, rfl, a, _, _, rfl, p2, by omega, ?_, ?_, fun r2 H3 b3 p3 r20 r21 => ⟨.int m, rfl, (by show 3 ≤ sizeLine; decide), fun o3 n3 => ?_⟩⟩
    · split <;> omega
    · split <;> omega
    have r21' : r2 < 11 := by
      revert r21
      split <;> intro r21 <;> omega
    have r21'' : r2 < m + 1 := by
      revert r21
      split <;> intro r21 <;> omega
    have s3 := same_new (H := H3) (p := o3) (.lst [.int r1, .int r2, .int m]) n3
    refine ⟨.ref a, rfl, a, 3, _, rfl, p3.same s3, by omega, by decide, by decide, fun r3 H4 b4 p4 r30 r31 => ?_⟩
    obtain ⟨k, em, k0, k1⟩ := pick_int (ns := [r1, r2, m]) (lo := 0) (hi := 200) r30 r31 (fun z hz => by
      simp only [List.mem_cons, List.not_mem_nil, or_false] at hz
      rcases hz with rfl | rfl | rfl <;> omega)
    refine ⟨o3, _, _, .int k, rfl, rfl, SqL.of (b4 _ _ (p3.ne n3) upd_same), em, ?_⟩
    have B4 : But a H H4 := (b2.trans b3).trans ((But.of s3).trans b4)
    -- wide
    refine ⟨10, 30, rfl, rfl, ⟨by decide, by decide⟩, (by show 4 ≤ sizeLine; decide), fun o5 n5 => ?_⟩
    have s5 := same_new (H := H4) (p := o5) (.lst [.int 1, .int 5, .int 30, .int (10 ^ (30 : Int).toNat)]) n5
    refine ⟨.ref a, rfl, a, 4, _, rfl, p4.same s5, by omega, by decide, by decide, fun r5 H6 b6 p6 r50 r51 => ?_⟩
    obtain ⟨wd, ew, w0, w1⟩ := pick_int (ns := [1, 5, 30, 10 ^ (30 : Int).toNat]) (lo := 1) (hi := 1000000000000000000000000000000) r50 r51 (fun z hz => by
      simp only [List.mem_cons, List.not_mem_nil, or_false] at hz
      rw [eb30] at hz
      rcases hz with rfl | rfl | rfl | rfl <;> omega)
    refine ⟨o5, _, _, .int wd, rfl, rfl, SqL.of (b6 _ _ (p4.ne n5) upd_same), ew, ?_⟩
    have B6 : But a H H6 := B4.trans ((But.of s5).trans b6)
    have P6 : Src H6 a (n + 6) := p6.mono (by omega)
    refine ⟨.int k, rfl, k, rfl, by omega, by omega, fun D nD => ?_⟩
    refine lc_range (lo := 0) (n := k.toNat) (PvD a D H6 (n + 6) 1 big) (PvD.start P6 nD) (fun i H' hi h => ⟨rfl, ?_⟩) (fun H' h => ?_)
    · have h' := h
      obtain ⟨bs, b0, p0, e, l, al⟩ := h
      exact ⟨.ref a, rfl, .int wd, rfl, a, wd, _, rfl, p0, by omega, w0, by omega, fun r H4 b p r0 r1 => ⟨1, r, rfl, rfl, h'.step P6 nD (by omega) b (p.mono (by omega)) (by show 1 ≤ 1 + r; omega) (le_big (by show 1 + r ≤ _; omega))⟩⟩
    · obtain ⟨bs, b0, p0, e, l, al⟩ := h
      exact q D H' bs (But.free B6 P6 nD) (B6.trans b0) (p0.mono (by omega)) e ⟨by omega, al⟩
end

section
variable {P : Program} {w : World} {K : PySem.W.Frag} {mg : Str → Option Value} {base : Heap}
/-! ### the law's own comparison, of equal data -/
def spSm (R : Hp → V → V → Prop) : Sp := fun vs H Q _ => ∃ x y : V, vs = [x, y] ∧ R H x y ∧ ∀ H', Same H H' → Q (.bl true) H'
def RI : Hp → V → V → Prop := fun _ x y => ∃ i : Int, x = .int i ∧ y = .int i
def RL (R : Hp → V → V → Prop) : Hp → V → V → Prop := fun H x y => ∃ (a b : Addr) (xs ys : List V), x = .ref a ∧ y = .ref b ∧ H a = some (.lst xs) ∧ H b = some (.lst ys) ∧ xs.length = ys.length ∧ xs.length ≤ 1000 ∧
  ∀ (i : Nat) (v u : V), xs[i]? = some v → ys[i]? = some u → R H v u
def RT (R : Hp → V → V → Prop) : Hp → V → V → Prop := fun H x y => ∃ (a b : Addr) (xs ys : List V), x = .ref a ∧ y = .ref b ∧ H a = some (.tup xs) ∧ H b = some (.tup ys) ∧ xs.length = ys.length ∧ xs.length ≤ 1000 ∧
  ∀ (i : Nat) (v u : V), xs[i]? = some v → ys[i]? = some u → R H v u
def Stab (R : Hp → V → V → Prop) : Prop := ∀ H H' x y, R H x y → Same H H' → R H' x y
theorem stab_RI : Stab RI := fun _ _ _ _ h _ => h
theorem stab_RL {R : Hp → V → V → Prop} (h : Stab R) : Stab (RL R) := fun H H' x y ⟨a, b, xs, ys, e1, e2, ha, hb, hl, hz, hr⟩ s =>
  ⟨a, b, xs, ys, e1, e2, s _ _ ha, s _ _ hb, hl, hz, fun i v u h1 h2 => h _ _ _ _ (hr i v u h1 h2) s⟩
theorem stab_RT {R : Hp → V → V → Prop} (h : Stab R) : Stab (RT R) := fun H H' x y ⟨a, b, xs, ys, e1, e2, ha, hb, hl, hz, hr⟩ s =>
  ⟨a, b, xs, ys, e1, e2, s _ _ ha, s _ _ hb, hl, hz, fun i v u h1 h2 => h _ _ _ _ (hr i v u h1 h2) s⟩
theorem rt_pair {H : Hp} {a b : Addr} {x y : Int} (ha : H a = some (.tup [.int x, .int y])) (hb : H b = some (.tup [.int x, .int y])) : RT RI H (.ref a) (.ref b) :=
  ⟨a, b, _, _, rfl, rfl, ha, hb, rfl, by show 2 ≤ 1000; decide, fun i v u h1 h2 => by
    rw [h1] at h2
    cases h2
    have : i < 2 := get_lt h1
    have : i = 0 ∨ i = 1 := by omega
    rcases this with rfl | rfl <;> (cases h1; exact ⟨_, rfl, rfl⟩)⟩
theorem rl_two {R : Hp → V → V → Prop} {H : Hp} {a b : Addr} {x1 x2 y1 y2 : V} (ha : H a = some (.lst [x1, x2])) (hb : H b = some (.lst [y1, y2])) (h1 : R H x1 y1) (h2 : R H x2 y2) : RL R H (.ref a) (.ref b) :=
  ⟨a, b, _, _, rfl, rfl, ha, hb, rfl, by show 2 ≤ 1000; decide, fun i v u e1 e2 => by
    have : i < 2 := get_lt e1
    have : i = 0 ∨ i = 1 := by omega
    rcases this with rfl | rfl <;> (cases e1; cases e2; assumption)⟩
theorem rl_ints {H : Hp} {a b : Addr} {ns : List Int} (ha : H a = some (.lst (ns.map V.int))) (hb : H b = some (.lst (ns.map V.int))) (hl : ns.length ≤ 1000) : RL RI H (.ref a) (.ref b) :=
  ⟨a, b, _, _, rfl, rfl, ha, hb, rfl, by rw [List.length_map]; exact hl, fun i v u h1 h2 => by
    rw [h1] at h2
    cases h2
    obtain ⟨n, _, rfl⟩ := get_map h1
    exact ⟨n, rfl, rfl⟩⟩
theorem no_fn {k : Nat} {f : Addr} {fd : FuncData} {ps : List Str} : FnOk P w K mg base CX0 k f fd ps (fun _ _ _ _ => False) := ⟨fun _ _ _ _ h => h.elim, fun _ _ _ _ _ _ _ _ _ _ _ _ _ h => h.elim⟩
theorem kitFF {t A B : String} (h1 : kitB t A = some false) (h2 : kitB t B = some false) : PySem.W.kitAny K (.type t) [.type A, .type B] = some false :=
  kitAny_cons (kit_ty h1) (fun _ => kitAny_cons (kit_ty h2) (fun _ => rfl) (fun h => by cases h)) (fun h => by cases h)
theorem kitT1 {t A B : String} (h1 : kitB t A = some true) : PySem.W.kitAny K (.type t) [.type A, .type B] = some true :=
  kitAny_cons (kit_ty h1) (fun h => by cases h) (fun _ => rfl)
theorem kitT2 {t A B : String} (h1 : kitB t A = some false) (h2 : kitB t B = some true) : PySem.W.kitAny K (.type t) [.type A, .type B] = some true :=
  kitAny_cons (kit_ty h1) (fun _ => kitAny_cons (kit_ty h2) (fun h => by cases h) (fun _ => rfl)) (fun h => by cases h)
theorem equal_int (T : Txt K mg) : FnOk P w K mg base CX0 1 T.a_law_equal T.d_law_equal ["result", "expected"] (spSm RI) := by
  have F_self : FnOk P w K mg base CX0 0 T.a_law_equal T.d_law_equal ["result", "expected"] (fun _ _ _ _ => False) := no_fn
  refine T.F_law_equal.ok sc_law_equal (fun vs H Q E h => ?_) (fun cdv A outer s H vs Q E hr h => ?_)
  · obtain ⟨x, y, rfl, _⟩ := h; rfl
  · obtain ⟨x, y, rfl, ⟨i, rfl, rfl⟩, q⟩ := h
    refine ⟨_, (pss_cons (ps_if (pt_val (pe_callB call_isiT (by rfl) T.z_isinstance (by decide +kernel) (pa_cons (pv 1) (pa_cons (pe_tup (pa_cons (pe_bltn (v := .ty "list") (by rfl) T.z_list (by decide +kernel) rfl) (pa_cons (pe_bltn (v := .ty "tuple") (by rfl) T.z_tuple (by decide +kernel) rfl) pa_nil))) pa_nil))))
  (pss_cons (ps_if (PW.pt (pw_or (pt_not (pt_val (pe_callB call_isiT (by rfl) T.z_isinstance (by decide +kernel) (pa_cons (pv 0) (pa_cons (pe_tup (pa_cons (pe_bltn (v := .ty "list") (by rfl) T.z_list (by decide +kernel) rfl) (pa_cons (pe_bltn (v := .ty "tuple") (by rfl) T.z_tuple (by decide +kernel) rfl) pa_nil))) pa_nil))))) (pw_or1 (pt_cmpR op_ne (pe_callB call_len_seq (by rfl) T.z_len (by decide +kernel) (pa_cons (pv 0) pa_nil)) (pe_callB call_len_seq (by rfl) T.z_len (by decide +kernel) (pa_cons (pv 1) pa_nil)) (nomark _)))))
  (pss_one (ps_ret pe_bl))
  pss_nil)
  (pss_cons (ps_if (pt_cmpR op_ne (pe_callB call_isi (by rfl) T.z_isinstance (by decide +kernel) (pa_cons (pv 0) (pa_cons (pe_bltn (v := .ty "list") (by rfl) T.z_list (by decide +kernel) rfl) pa_nil))) (pe_callB call_isi (by rfl) T.z_isinstance (by decide +kernel) (pa_cons (pv 1) (pa_cons (pe_bltn (v := .ty "list") (by rfl) T.z_list (by decide +kernel) rfl) pa_nil))) (nomark _))
  (pss_one (ps_ret pe_bl))
  pss_nil)
  (pss_one (ps_ret (pe_callB (cr_all rfl) (by rfl) T.z_all (by decide +kernel) (pa_cons (pe_lc (own := [("one", 2), ("other", 3)]) (g := (gTup K 2 (gCons (gName 2) (gCons (gName 3) gNil)))) rfl sc_law_equal.nd (RZ.pi_zipA (by rfl) T.z_zip (pa_cons (pv 0) (pa_cons (pv 1) pa_nil))) (blkOk_by (own := [("one", 2), ("other", 3)]) (N := nm_law_equal) (sc := defScope s_law_equal) (by decide +kernel)) (fun _ _ _ _ _ => (pg_tup rfl (pgs_cons (pg_name (i := 2) sc_law_equal.nd rfl (.inl rfl)) (pgs_cons (pg_name (i := 3) sc_law_equal.nd rfl (.inl rfl)) pgs_nil)))) (fun _ _ _ _ _ => pts_nil) (fun _ _ _ _ _ => (pe_call F_self hr (by rfl) T.g_law_equal T.F_law_equal.kp T.b_law_equal .nil pass0 (pa_cons (pv 2) (pa_cons (pv 3) pa_nil))))) pa_nil))))))
  pss_nil)
  (pss_cons (ps_if (PW.pt (pw_or (pt_val (pe_callB call_isiT (by rfl) T.z_isinstance (by decide +kernel) (pa_cons (pv 1) (pa_cons (pe_tup (pa_cons (pe_bltn (v := .ty "bool") (by rfl) T.z_bool (by decide +kernel) rfl) (pa_cons (pe_bltn (v := .ty "str") (by rfl) T.z_str (by decide +kernel) rfl) pa_nil))) pa_nil)))) (pw_or1 (pt_cmpR op_isN (pv 1) pe_non (nomark _)))))
  (pss_one (ps_ret (pe_and (pe_cmpR op_eq (pe_callB call_isi (by rfl) T.z_isinstance (by decide +kernel) (pa_cons (pv 0) (pa_cons (pe_bltn (v := .ty "bool") (by rfl) T.z_bool (by decide +kernel) rfl) pa_nil))) (pe_callB call_isi (by rfl) T.z_isinstance (by decide +kernel) (pa_cons (pv 1) (pa_cons (pe_bltn (v := .ty "bool") (by rfl) T.z_bool (by decide +kernel) rfl) pa_nil))) (nomark _)) (pe_one (pe_cmpR op_eq (pv 0) (pv 1) (nomark _))))))
  pss_nil)
  (pss_one (ps_ret (pe_and (pe_callB call_isi (by rfl) T.z_isinstance (by decide +kernel) (pa_cons (pv 0) (pa_cons (pe_bltn (v := .ty "int") (by rfl) T.z_int (by decide +kernel) rfl) pa_nil))) (pe_and (pe_not (pe_callB call_isi (by rfl) T.z_isinstance (by decide +kernel) (pa_cons (pv 0) (pa_cons (pe_bltn (v := .ty "bool") (by rfl) T.z_bool (by decide +kernel) rfl) pa_nil)))) (pe_one (pe_cmpR op_eq (pv 0) (pv 1) (nomark _))))))))), ?_⟩
    refine ⟨.int i, rfl, (by show 2 ≤ sizeLine; decide), fun tp ntp => ⟨.int i, tp, [.ty "list", .ty "tuple"], .type "int", [.type "list", .type "tuple"], false, rfl, upd_same, .cons (.ty _) (.cons (.ty _) .nil), .base (.int i), kitFF (by decide +kernel) (by decide +kernel), false, rfl, iteF ?_⟩⟩
    have s1 := same_new (H := H) (p := tp) (.tup [.ty "list", .ty "tuple"]) ntp
    refine ⟨.int i, rfl, (by show 2 ≤ sizeLine; decide), fun tp2 ntp2 => ⟨.int i, tp2, [.ty "bool", .ty "str"], .type "int", [.type "bool", .type "str"], false, rfl, upd_same, .cons (.ty _) (.cons (.ty _) .nil), .base (.int i), kitFF (by decide +kernel) (by decide +kernel), false, rfl, iteF ?_⟩⟩
    have s2 := s1.trans (same_new (p := tp2) (.tup [.ty "bool", .ty "str"]) ntp2)
    refine ⟨.int i, rfl, rfl, _, rfl, ite_f (by simp) ?_⟩
    refine ⟨.int i, rfl, .int i, .ty "int", .type "int", .type "int", true, rfl, .ty _, .base (.int i), kit_ty (by decide +kernel), true, rfl, iteT ?_⟩
    refine ⟨.int i, rfl, .int i, .ty "bool", .type "int", .type "bool", false, rfl, .ty _, .base (.int i), kit_ty (by decide +kernel), false, rfl, true, rfl, iteT ?_⟩
    refine ⟨.int i, rfl, .int i, rfl, rfl, ?_⟩
    show Q (.bl (decide (V.int i = V.int i))) _
    rw [decide_eq_true rfl]
    exact q _ s2
theorem equal_list (T : Txt K mg) {k : Nat} {R : Hp → V → V → Prop} (F_self : FnOk P w K mg base CX0 k T.a_law_equal T.d_law_equal ["result", "expected"] (spSm R)) (st : Stab R) :
    FnOk P w K mg base CX0 (k + 1) T.a_law_equal T.d_law_equal ["result", "expected"] (spSm (RL R)) := by
  refine T.F_law_equal.ok sc_law_equal (fun vs H Q E h => ?_) (fun cdv A outer s H vs Q E hr h => ?_)
  · obtain ⟨x, y, rfl, _⟩ := h; rfl
  · obtain ⟨x, y, rfl, ⟨a, b, xs, ys, rfl, rfl, ha, hb, hl, hz, hR⟩, q⟩ := h
    refine ⟨_, (pss_cons (ps_if (pt_val (pe_callB call_isiT (by rfl) T.z_isinstance (by decide +kernel) (pa_cons (pv 1) (pa_cons (pe_tup (pa_cons (pe_bltn (v := .ty "list") (by rfl) T.z_list (by decide +kernel) rfl) (pa_cons (pe_bltn (v := .ty "tuple") (by rfl) T.z_tuple (by decide +kernel) rfl) pa_nil))) pa_nil))))
  (pss_cons (ps_if (PW.pt (pw_or (pt_not (pt_val (pe_callB call_isiT (by rfl) T.z_isinstance (by decide +kernel) (pa_cons (pv 0) (pa_cons (pe_tup (pa_cons (pe_bltn (v := .ty "list") (by rfl) T.z_list (by decide +kernel) rfl) (pa_cons (pe_bltn (v := .ty "tuple") (by rfl) T.z_tuple (by decide +kernel) rfl) pa_nil))) pa_nil))))) (pw_or1 (pt_cmpR op_ne (pe_callB call_len_seq (by rfl) T.z_len (by decide +kernel) (pa_cons (pv 0) pa_nil)) (pe_callB call_len_seq (by rfl) T.z_len (by decide +kernel) (pa_cons (pv 1) pa_nil)) (nomark _)))))
  (pss_one (ps_ret pe_bl))
  pss_nil)
  (pss_cons (ps_if (pt_cmpR op_ne (pe_callB call_isi (by rfl) T.z_isinstance (by decide +kernel) (pa_cons (pv 0) (pa_cons (pe_bltn (v := .ty "list") (by rfl) T.z_list (by decide +kernel) rfl) pa_nil))) (pe_callB call_isi (by rfl) T.z_isinstance (by decide +kernel) (pa_cons (pv 1) (pa_cons (pe_bltn (v := .ty "list") (by rfl) T.z_list (by decide +kernel) rfl) pa_nil))) (nomark _))
  (pss_one (ps_ret pe_bl))
  pss_nil)
  (pss_one (ps_ret (pe_callB (cr_all rfl) (by rfl) T.z_all (by decide +kernel) (pa_cons (pe_lc (own := [("one", 2), ("other", 3)]) (g := (gTup K 2 (gCons (gName 2) (gCons (gName 3) gNil)))) rfl sc_law_equal.nd (RZ.pi_zipA (by rfl) T.z_zip (pa_cons (pv 0) (pa_cons (pv 1) pa_nil))) (blkOk_by (own := [("one", 2), ("other", 3)]) (N := nm_law_equal) (sc := defScope s_law_equal) (by decide +kernel)) (fun _ _ _ _ _ => (pg_tup rfl (pgs_cons (pg_name (i := 2) sc_law_equal.nd rfl (.inl rfl)) (pgs_cons (pg_name (i := 3) sc_law_equal.nd rfl (.inl rfl)) pgs_nil)))) (fun _ _ _ _ _ => pts_nil) (fun _ _ _ _ _ => (pe_call F_self hr (by rfl) T.g_law_equal T.F_law_equal.kp T.b_law_equal .nil pass0 (pa_cons (pv 2) (pa_cons (pv 3) pa_nil))))) pa_nil))))))
  pss_nil)
  (pss_cons (ps_if (PW.pt (pw_or (pt_val (pe_callB call_isiT (by rfl) T.z_isinstance (by decide +kernel) (pa_cons (pv 1) (pa_cons (pe_tup (pa_cons (pe_bltn (v := .ty "bool") (by rfl) T.z_bool (by decide +kernel) rfl) (pa_cons (pe_bltn (v := .ty "str") (by rfl) T.z_str (by decide +kernel) rfl) pa_nil))) pa_nil)))) (pw_or1 (pt_cmpR op_isN (pv 1) pe_non (nomark _)))))
  (pss_one (ps_ret (pe_and (pe_cmpR op_eq (pe_callB call_isi (by rfl) T.z_isinstance (by decide +kernel) (pa_cons (pv 0) (pa_cons (pe_bltn (v := .ty "bool") (by rfl) T.z_bool (by decide +kernel) rfl) pa_nil))) (pe_callB call_isi (by rfl) T.z_isinstance (by decide +kernel) (pa_cons (pv 1) (pa_cons (pe_bltn (v := .ty "bool") (by rfl) T.z_bool (by decide +kernel) rfl) pa_nil))) (nomark _)) (pe_one (pe_cmpR op_eq (pv 0) (pv 1) (nomark _))))))
  pss_nil)
  (pss_one (ps_ret (pe_and (pe_callB call_isi (by rfl) T.z_isinstance (by decide +kernel) (pa_cons (pv 0) (pa_cons (pe_bltn (v := .ty "int") (by rfl) T.z_int (by decide +kernel) rfl) pa_nil))) (pe_and (pe_not (pe_callB call_isi (by rfl) T.z_isinstance (by decide +kernel) (pa_cons (pv 0) (pa_cons (pe_bltn (v := .ty "bool") (by rfl) T.z_bool (by decide +kernel) rfl) pa_nil)))) (pe_one (pe_cmpR op_eq (pv 0) (pv 1) (nomark _))))))))), ?_⟩
    refine ⟨.ref b, rfl, (by show 2 ≤ sizeLine; decide), fun tp ntp => ⟨.ref b, tp, [.ty "list", .ty "tuple"], .type "list", [.type "list", .type "tuple"], true, rfl, upd_same, .cons (.ty _) (.cons (.ty _) .nil), .base (.lst (same_new _ ntp _ _ hb)), kitT1 (by decide +kernel), true, rfl, iteT ?_⟩⟩
    have s1 := same_new (H := H) (p := tp) (.tup [.ty "list", .ty "tuple"]) ntp
    have ha1 := s1 _ _ ha
    have hb1 := s1 _ _ hb
    generalize upd H tp (.tup [.ty "list", .ty "tuple"]) = H1 at s1 ha1 hb1 ⊢
    refine ⟨.ref a, rfl, (by show 2 ≤ sizeLine; decide), fun tp ntp => ⟨.ref a, tp, [.ty "list", .ty "tuple"], .type "list", [.type "list", .type "tuple"], true, rfl, upd_same, .cons (.ty _) (.cons (.ty _) .nil), .base (.lst (same_new _ ntp _ _ ha1)), kitT1 (by decide +kernel), true, rfl, iteF ?_⟩⟩
    have s2 := s1.trans (same_new (H := H1) (p := tp) (.tup [.ty "list", .ty "tuple"]) ntp)
    have ha2 := s2 _ _ ha
    have hb2 := s2 _ _ hb
    generalize upd H1 tp (.tup [.ty "list", .ty "tuple"]) = H2 at s2 ha2 hb2 ⊢
    refine ⟨.ref a, rfl, a, xs, rfl, .inl (SqL.of ha2), .ref b, rfl, b, ys, rfl, .inl (SqL.of hb2), rfl, _, rfl, ite_f (by rw [hl]; simp) ?_⟩
    refine ⟨.ref a, rfl, .ref a, .ty "list", .type "list", .type "list", true, rfl, .ty _, .base (.lst ha2), kit_ty (by decide +kernel), .ref b, rfl, .ref b, .ty "list", .type "list", .type "list", true, rfl, .ty _, .base (.lst hb2), kit_ty (by decide +kernel), rfl, _, rfl, ite_f (by simp) ?_⟩
    refine ⟨.ref a, rfl, .ref b, rfl, a, b, xs, ys, rfl, .inl ⟨SqL.of ha2, SqL.of hb2, fun D nD => ?_⟩⟩
    refine lc_zip (K := K) (a := a) (b := b) (xs := xs) (ys := ys) hl (fun i H' => Same H2 H' ∧ H' D = some (.lst ((List.replicate i true).map V.bl))) ⟨same_new _ nD, upd_same⟩ (fun i H' _ h => ⟨SqL.of (h.1 _ _ ha2), SqL.of (h.1 _ _ hb2)⟩) (fun i x y H' Tp ex ey h nT => ?_) (fun H' h => ?_)
    · have sT := same_new (H := H') (p := Tp) (.tup [x, y]) nT
      refine ⟨Tp, [_, _], rfl, SqT.of upd_same, rfl, _, [_], rfl, _, [], rfl, rfl, rfl, ?_⟩
      refine ⟨x, rfl, y, rfl, x, y, rfl, st _ _ _ _ (hR i x y ex ey) (s2.trans (h.1.trans sT)), fun H3 s3 => ?_⟩
      have il := get_lt ex
      refine ⟨_, s3 _ _ (sT _ _ h.2), ?_, same_set (h.1.trans (sT.trans s3)) nD, ?_⟩
      · rw [List.length_map, List.length_replicate]; exact small_of (m := 1000) (by omega) (by decide)
      · rw [upd_same, List.replicate_succ', List.map_append]; rfl
    · refine ⟨D, List.replicate xs.length true, rfl, SqL.of h.2, ?_⟩
      have e : (List.replicate xs.length true).all id = true := List.all_eq_true.mpr fun b hb => by rw [(List.mem_replicate.mp hb).2]; rfl
      show Q (.bl ((List.replicate xs.length true).all id)) H'
      rw [e]
      exact q H' (s2.trans h.1)
end

section
variable {P : Program} {w : World} {K : PySem.W.Frag} {mg : Str → Option Value} {base : Heap}
theorem equal_tup (T : Txt K mg) {k : Nat} {R : Hp → V → V → Prop} (F_self : FnOk P w K mg base CX0 k T.a_law_equal T.d_law_equal ["result", "expected"] (spSm R)) (st : Stab R) :
    FnOk P w K mg base CX0 (k + 1) T.a_law_equal T.d_law_equal ["result", "expected"] (spSm (RT R)) := by
  refine T.F_law_equal.ok sc_law_equal (fun vs H Q E h => ?_) (fun cdv A outer s H vs Q E hr h => ?_)
  · obtain ⟨x, y, rfl, _⟩ := h; rfl
  · obtain ⟨x, y, rfl, ⟨a, b, xs, ys, rfl, rfl, ha, hb, hl, hz, hR⟩, q⟩ := h
    refine ⟨_, (pss_cons (ps_if (pt_val (pe_callB call_isiT (by rfl) T.z_isinstance (by decide +kernel) (pa_cons (pv 1) (pa_cons (pe_tup (pa_cons (pe_bltn (v := .ty "list") (by rfl) T.z_list (by decide +kernel) rfl) (pa_cons (pe_bltn (v := .ty "tuple") (by rfl) T.z_tuple (by decide +kernel) rfl) pa_nil))) pa_nil))))
  (pss_cons (ps_if (PW.pt (pw_or (pt_not (pt_val (pe_callB call_isiT (by rfl) T.z_isinstance (by decide +kernel) (pa_cons (pv 0) (pa_cons (pe_tup (pa_cons (pe_bltn (v := .ty "list") (by rfl) T.z_list (by decide +kernel) rfl) (pa_cons (pe_bltn (v := .ty "tuple") (by rfl) T.z_tuple (by decide +kernel) rfl) pa_nil))) pa_nil))))) (pw_or1 (pt_cmpR op_ne (pe_callB call_len_seq (by rfl) T.z_len (by decide +kernel) (pa_cons (pv 0) pa_nil)) (pe_callB call_len_seq (by rfl) T.z_len (by decide +kernel) (pa_cons (pv 1) pa_nil)) (nomark _)))))
  (pss_one (ps_ret pe_bl))
  pss_nil)
  (pss_cons (ps_if (pt_cmpR op_ne (pe_callB call_isi (by rfl) T.z_isinstance (by decide +kernel) (pa_cons (pv 0) (pa_cons (pe_bltn (v := .ty "list") (by rfl) T.z_list (by decide +kernel) rfl) pa_nil))) (pe_callB call_isi (by rfl) T.z_isinstance (by decide +kernel) (pa_cons (pv 1) (pa_cons (pe_bltn (v := .ty "list") (by rfl) T.z_list (by decide +kernel) rfl) pa_nil))) (nomark _))
  (pss_one (ps_ret pe_bl))
  pss_nil)
  (pss_one (ps_ret (pe_callB (cr_all rfl) (by rfl) T.z_all (by decide +kernel) (pa_cons (pe_lc (own := [("one", 2), ("other", 3)]) (g := (gTup K 2 (gCons (gName 2) (gCons (gName 3) gNil)))) rfl sc_law_equal.nd (RZ.pi_zipA (by rfl) T.z_zip (pa_cons (pv 0) (pa_cons (pv 1) pa_nil))) (blkOk_by (own := [("one", 2), ("other", 3)]) (N := nm_law_equal) (sc := defScope s_law_equal) (by decide +kernel)) (fun _ _ _ _ _ => (pg_tup rfl (pgs_cons (pg_name (i := 2) sc_law_equal.nd rfl (.inl rfl)) (pgs_cons (pg_name (i := 3) sc_law_equal.nd rfl (.inl rfl)) pgs_nil)))) (fun _ _ _ _ _ => pts_nil) (fun _ _ _ _ _ => (pe_call F_self hr (by rfl) T.g_law_equal T.F_law_equal.kp T.b_law_equal .nil pass0 (pa_cons (pv 2) (pa_cons (pv 3) pa_nil))))) pa_nil))))))
  pss_nil)
  (pss_cons (ps_if (PW.pt (pw_or (pt_val (pe_callB call_isiT (by rfl) T.z_isinstance (by decide +kernel) (pa_cons (pv 1) (pa_cons (pe_tup (pa_cons (pe_bltn (v := .ty "bool") (by rfl) T.z_bool (by decide +kernel) rfl) (pa_cons (pe_bltn (v := .ty "str") (by rfl) T.z_str (by decide +kernel) rfl) pa_nil))) pa_nil)))) (pw_or1 (pt_cmpR op_isN (pv 1) pe_non (nomark _)))))
  (pss_one (ps_ret (pe_and (pe_cmpR op_eq (pe_callB call_isi (by rfl) T.z_isinstance (by decide +kernel) (pa_cons (pv 0) (pa_cons (pe_bltn (v := .ty "bool") (by rfl) T.z_bool (by decide +kernel) rfl) pa_nil))) (pe_callB call_isi (by rfl) T.z_isinstance (by decide +kernel) (pa_cons (pv 1) (pa_cons (pe_bltn (v := .ty "bool") (by rfl) T.z_bool (by decide +kernel) rfl) pa_nil))) (nomark _)) (pe_one (pe_cmpR op_eq (pv 0) (pv 1) (nomark _))))))
  pss_nil)
  (pss_one (ps_ret (pe_and (pe_callB call_isi (by rfl) T.z_isinstance (by decide +kernel) (pa_cons (pv 0) (pa_cons (pe_bltn (v := .ty "int") (by rfl) T.z_int (by decide +kernel) rfl) pa_nil))) (pe_and (pe_not (pe_callB call_isi (by rfl) T.z_isinstance (by decide +kernel) (pa_cons (pv 0) (pa_cons (pe_bltn (v := .ty "bool") (by rfl) T.z_bool (by decide +kernel) rfl) pa_nil)))) (pe_one (pe_cmpR op_eq (pv 0) (pv 1) (nomark _))))))))), ?_⟩
    refine ⟨.ref b, rfl, (by show 2 ≤ sizeLine; decide), fun tp ntp => ⟨.ref b, tp, [.ty "list", .ty "tuple"], .type "tuple", [.type "list", .type "tuple"], true, rfl, upd_same, .cons (.ty _) (.cons (.ty _) .nil), .base (.tup (same_new _ ntp _ _ hb)), kitT2 (by decide +kernel) (by decide +kernel), true, rfl, iteT ?_⟩⟩
    have s1 := same_new (H := H) (p := tp) (.tup [.ty "list", .ty "tuple"]) ntp
    have ha1 := s1 _ _ ha
    have hb1 := s1 _ _ hb
    generalize upd H tp (.tup [.ty "list", .ty "tuple"]) = H1 at s1 ha1 hb1 ⊢
    refine ⟨.ref a, rfl, (by show 2 ≤ sizeLine; decide), fun tp ntp => ⟨.ref a, tp, [.ty "list", .ty "tuple"], .type "tuple", [.type "list", .type "tuple"], true, rfl, upd_same, .cons (.ty _) (.cons (.ty _) .nil), .base (.tup (same_new _ ntp _ _ ha1)), kitT2 (by decide +kernel) (by decide +kernel), true, rfl, iteF ?_⟩⟩
    have s2 := s1.trans (same_new (H := H1) (p := tp) (.tup [.ty "list", .ty "tuple"]) ntp)
    have ha2 := s2 _ _ ha
    have hb2 := s2 _ _ hb
    generalize upd H1 tp (.tup [.ty "list", .ty "tuple"]) = H2 at s2 ha2 hb2 ⊢
    refine ⟨.ref a, rfl, a, xs, rfl, .inr (SqT.of ha2), .ref b, rfl, b, ys, rfl, .inr (SqT.of hb2), rfl, _, rfl, ite_f (by rw [hl]; simp) ?_⟩
    refine ⟨.ref a, rfl, .ref a, .ty "list", .type "tuple", .type "list", false, rfl, .ty _, .base (.tup ha2), kit_ty (by decide +kernel), .ref b, rfl, .ref b, .ty "list", .type "tuple", .type "list", false, rfl, .ty _, .base (.tup hb2), kit_ty (by decide +kernel), rfl, _, rfl, ite_f (by simp) ?_⟩
    refine ⟨.ref a, rfl, .ref b, rfl, a, b, xs, ys, rfl, .inr ⟨SqT.of ha2, SqT.of hb2, fun D nD => ?_⟩⟩
    refine lc_zipT (K := K) (a := a) (b := b) (xs := xs) (ys := ys) hl (fun i H' => Same H2 H' ∧ H' D = some (.lst ((List.replicate i true).map V.bl))) ⟨same_new _ nD, upd_same⟩ (fun i H' _ h => ⟨SqT.of (h.1 _ _ ha2), SqT.of (h.1 _ _ hb2)⟩) (fun i x y H' Tp ex ey h nT => ?_) (fun H' h => ?_)
    · have sT := same_new (H := H') (p := Tp) (.tup [x, y]) nT
      refine ⟨Tp, [_, _], rfl, SqT.of upd_same, rfl, _, [_], rfl, _, [], rfl, rfl, rfl, ?_⟩
      refine ⟨x, rfl, y, rfl, x, y, rfl, st _ _ _ _ (hR i x y ex ey) (s2.trans (h.1.trans sT)), fun H3 s3 => ?_⟩
      have il := get_lt ex
      refine ⟨_, s3 _ _ (sT _ _ h.2), ?_, same_set (h.1.trans (sT.trans s3)) nD, ?_⟩
      · rw [List.length_map, List.length_replicate]; exact small_of (m := 1000) (by omega) (by decide)
      · rw [upd_same, List.replicate_succ', List.map_append]; rfl
    · refine ⟨D, List.replicate xs.length true, rfl, SqL.of h.2, ?_⟩
      have e : (List.replicate xs.length true).all id = true := List.all_eq_true.mpr fun b hb => by rw [(List.mem_replicate.mp hb).2]; rfl
      show Q (.bl ((List.replicate xs.length true).all id)) H'
      rw [e]
      exact q H' (s2.trans h.1)
end

section
variable {P : Program} {w : World} {K : PySem.W.Frag} {mg : Str → Option Value} {base : Heap}
theorem nodec {x : V} : ¬ ((!decide (x = x)) = true) := by simp
theorem isCards_perm {a b : List Int} (h : IsCards b) (p : a.Perm b) : IsCards a := ⟨by rw [p.length_eq]; exact h.len, fun x hx => h.all x (p.subset hx)⟩
theorem isStart_perm {a b : List Int} (h : IsStart b) (p : a.Perm b) : IsStart a := ⟨by rw [p.length_eq]; exact h.len, fun x hx => h.all x (p.subset hx)⟩
theorem erase_permJ : ∀ (ls : List Int) (j : Nat) (h : j < ls.length), (ls[j] :: ls.eraseIdx j).Perm ls
  | [], _, h => absurd h (by simp)
  | _ :: _, 0, _ => List.Perm.refl _
  | x :: ls, j + 1, h => by
    have h' : j < ls.length := by simpa using h
    show (ls[j] :: x :: ls.eraseIdx j).Perm (x :: ls)
    exact (List.Perm.swap x ls[j] _).trans ((erase_permJ ls j h').cons x)
theorem st_nc {cs : List Int} (h : IsStart cs) : Nc 1 300 (.list (cs.map PyData.int)) := nc_ints (fun x hx => by have := h.all x hx; exact big_ab (by omega) this.2) (by have := h.len; omega)
theorem cd_nc {hs : List Int} (h : IsCards hs) : Nc 1 300 (.list (hs.map PyData.int)) := nc_ints (fun x hx => by have := h.all x hx; exact big_ab (by omega) this.2) (by have := h.len; omega)
theorem two_nice {cs hs : List Int} (h1 : IsStart cs) (h2 : IsCards hs) : Nice (.list [.list (cs.map PyData.int), .list (hs.map PyData.int)]) :=
  (nc_list (k := 1) (N := 300) (ds := [.list (cs.map PyData.int), .list (hs.map PyData.int)]) fun d hd => by
    simp only [List.mem_cons, List.not_mem_nil, or_false] at hd
    rcases hd with rfl | rfl
    · exact st_nc h1
    · exact cd_nc h2).nice (by decide) (by simp only [List.length_cons, List.length_nil]; omega)
def spHolds (K : PySem.W.Frag) : Sp := fun vs H Q _ => ∃ (a m : Addr) (m1 m2 : Int), vs = [.ref a, .ref m] ∧ Src H a 0 ∧ H m = some (.lst [.int m1, .int m2]) ∧ 1 ≤ m1 ∧ m1 ≤ 30 ∧ 1 ≤ m2 ∧ m2 ≤ 200 ∧ m ≠ a ∧ ∀ H', But a H H' → Q (.bl true) H'
end

section
variable {P : Program} {w : World} {K : PySem.W.Frag} {mg : Str → Option Value} {base : Heap}
abbrev ok_law_equal (T : Txt K mg) : FnOk P w K mg base CX0 3 T.a_law_equal T.d_law_equal ["result", "expected"] (spSm (RT (RL RI))) := equal_tup T (equal_list T (equal_int T) stab_RI) (stab_RL stab_RI)
theorem rt_two {R : Hp → V → V → Prop} {H : Hp} {a b : Addr} {x1 x2 y1 y2 : V} (ha : H a = some (.tup [x1, x2])) (hb : H b = some (.tup [y1, y2])) (h1 : R H x1 y1) (h2 : R H x2 y2) : RT R H (.ref a) (.ref b) :=
  ⟨a, b, _, _, rfl, rfl, ha, hb, rfl, (by show 2 ≤ 1000; decide), fun i v u e1 e2 => by
    match i with
    | 0 => cases e1; cases e2; exact h1
    | 1 => cases e1; cases e2; exact h2
    | i + 2 => cases e1⟩
/-- the words written one behind the other, a space behind each -/
def wr (cs : List Int) : List Nat := (cs.map fun n => numI n ++ [32]).flatten
theorem wr_snoc (cs : List Int) (n : Int) : wr (cs ++ [n]) = wr cs ++ (numI n ++ [32]) := by
  unfold wr; rw [List.map_append, List.flatten_append]; simp
theorem wr_join : ∀ {cs : List Int}, cs ≠ [] → wr cs = TL.joinL [32] (cs.map numI) ++ [32]
  | [], h => absurd rfl h
  | [n], _ => by simp [wr, TL.joinL]
  | n :: m :: r, _ => by
    have ih := wr_join (cs := m :: r) (by simp)
    show (numI n ++ [32]) ++ wr (m :: r) = (numI n ++ ([32] ++ TL.joinL [32] ((m :: r).map numI))) ++ [32]
    rw [ih]
    simp
theorem wr_len {cs : List Int} (h : ∀ x ∈ cs, x ≤ 1000000000000000000000000000000) : (wr cs).length ≤ cs.length * 32 := by
  induction cs with
  | nil => simp [wr]
  | cons n l ih =>
    have := ih fun x hx => h x (List.mem_cons_of_mem _ hx)
    have h0 := numI_len (h n List.mem_cons_self)
    show ((numI n ++ [32]) ++ wr l).length ≤ (l.length + 1) * 32
    rw [List.length_append, List.length_append]
    simp only [List.length_cons, List.length_nil]
    omega
/-- behind the colon -/
def tlW (hs : List Int) : List Nat := (hs.map fun n => 32 :: numI n).flatten
theorem tlW_snoc (cs : List Int) (n : Int) : tlW (cs ++ [n]) = tlW cs ++ (32 :: numI n) := by
  unfold tlW; rw [List.map_append, List.flatten_append]; simp
theorem tlW_len {cs : List Int} (h : ∀ x ∈ cs, x ≤ 1000000000000000000000000000000) : (tlW cs).length ≤ cs.length * 32 := by
  induction cs with
  | nil => simp [tlW]
  | cons n l ih =>
    have := ih fun x hx => h x (List.mem_cons_of_mem _ hx)
    have h0 := numI_len (h n List.mem_cons_self)
    show ((32 :: numI n) ++ tlW l).length ≤ (l.length + 1) * 32
    rw [List.length_append]
    simp only [List.length_cons]
    omega
set_option maxHeartbeats 2000000 in
theorem ok_law_holds (T : Txt K mg) : FnG P w K mg base CX0 7 T.a_law_holds T.d_law_holds ["source", "most"] (spHolds K) := by
  refine funG0 T.F_law_holds sc_law_holds (fun vs H Q E h => ?_) (fun cdv A outer s0 H vs Q E hgu hr h => ?_)
  · obtain ⟨a, m, m1, m2, rfl, _⟩ := h; rfl
  · obtain ⟨a, m, m1, m2, rfl, hP, em, h1, h2, h3, h4, nma, q⟩ := h
    refine ⟨_, (pss_cons (ps_par (i := 2) (j := 3) rfl sc_law_holds.nd rfl rfl (by decide) rfl rfl (pa_cons (pe_call (ok_law_start T) (hr.mono (by decide)) (by rfl) T.g_law_start T.F_law_start.kp T.b_law_start .nil pass0 (pa_cons (pv 0) (pa_cons (pe_ix ix_list (pv 1) pe_int (fun _ _ => rfl)) pa_nil))) (pa_cons (pe_call (ok_law_cards T) (hr.mono (by decide)) (by rfl) T.g_law_cards T.F_law_cards.kp T.b_law_cards .nil pass0 (pa_cons (pv 0) (pa_cons (pe_ix ix_list (pv 1) pe_int (fun _ _ => rfl)) pa_nil))) pa_nil)) (by rfl))
  (pss_cons (ps_for PassesOwn.never rfl (pi_range1 (by rfl) T.z_range (pa_cons pe_int pa_nil)) (pg_name (i := 4) sc_law_holds.nd rfl (.inl rfl))
  (pss_cons (ps_par (i := 5) (j := 6) rfl sc_law_holds.nd rfl rfl (by decide) rfl rfl (pa_cons (pe_callB (call_repr_X hgu hr.units) (by rfl) T.z_repr (by decide +kernel) (pa_cons (pe_lst (pa_cons (pv 2) (pa_cons (pv 3) pa_nil))) pa_nil)) (pa_cons pe_str pa_nil)) (by rfl))
  (pss_cons (ps_for PassesOwn.never rfl (pi_list (pv 2)) (pg_name (i := 7) sc_law_holds.nd rfl (.inl rfl))
  (pss_one (ps_set (i := 6) sc_law_holds.nd rfl (.inl rfl) (pe_op op_add_str (pe_op op_add_str (pv 6) (pe_callTy call_str_int (by rfl) T.z_str (by decide +kernel) (pa_cons (pv 7) pa_nil))) pe_str))))
  (pss_cons (ps_set (i := 6) sc_law_holds.nd rfl (.inl rfl) (pe_op op_add_str (pe_slice sl_str (pv 6) po_none (po_some (pe_un un_neg pe_int))) pe_str))
  (pss_cons (ps_for PassesOwn.never rfl (pi_list (pv 3)) (pg_name (i := 7) sc_law_holds.nd rfl (.inl rfl))
  (pss_one (ps_set (i := 6) sc_law_holds.nd rfl (.inl rfl) (pe_op op_add_str (pe_op op_add_str (pv 6) pe_str) (pe_callTy call_str_int (by rfl) T.z_str (by decide +kernel) (pa_cons (pv 7) pa_nil))))))
  (pss_cons (ps_set (i := 8) sc_law_holds.nd rfl (.inl rfl) (pe_call (ok_format_cards T) hr (by rfl) T.g_format_cards T.F_format_cards.kp T.b_format_cards .nil pass0 (pa_cons (pv 2) (pa_cons (pv 3) pa_nil))))
  (pss_cons (ps_if (PW.pt (pw_or (pt_cmpR op_ne (pv 8) (pv 6) (nomark _)) (pw_or1 (pt_cmpR op_ne (pe_callB (call_repr_X hgu hr.units) (by rfl) T.z_repr (by decide +kernel) (pa_cons (pe_lst (pa_cons (pv 2) (pa_cons (pv 3) pa_nil))) pa_nil)) (pv 5) (nomark _)))))
  (pss_one (ps_ret pe_bl))
  pss_nil)
  (pss_cons (ps_for PassesOwn.never rfl (pi_range1 (by rfl) T.z_range (pa_cons pe_int pa_nil)) (pg_name (i := 9) sc_law_holds.nd rfl (.inl rfl))
  (pss_cons (ps_set (i := 10) sc_law_holds.nd rfl (.inl rfl) (pe_call (ok_parse_cards T) (hr.mono (by decide)) (by rfl) T.g_parse_cards T.F_parse_cards.kp T.b_parse_cards .nil pass0 (pa_cons (pv 8) pa_nil)))
  (pss_cons (ps_if (pt_not (pt_val (pe_call (ok_law_equal T) (hr.mono (by decide)) (by rfl) T.g_law_equal T.F_law_equal.kp T.b_law_equal .nil pass0 (pa_cons (pv 10) (pa_cons (pe_tup (pa_cons (pv 2) (pa_cons (pv 3) pa_nil))) pa_nil)))))
  (pss_one (ps_ret pe_bl))
  pss_nil)
  (pss_cons (ps_expr (pe_bm PySem.F.plainAttrs_list PySem.F.slot_list_append PySem.F.type_list_append mt_append (pe_ix ix_tup (pv 10) pe_int (fun _ _ => rfl)) (pa_cons pe_int pa_nil)))
  (pss_cons (ps_expr (pe_bm0 PySem.F.plainAttrs_list PySem.F.slot_list_reverse PySem.F.type_list_reverse mt_reverse (pe_ix ix_tup (pv 10) pe_int (fun _ _ => rfl))))
  (pss_one (ps_expr (pe_bm PySem.F.plainAttrs_list PySem.F.slot_list_append PySem.F.type_list_append mt_append (pe_ix ix_tup (pv 10) pe_int (fun _ _ => rfl)) (pa_cons pe_int pa_nil)))))))))
  (pss_cons (ps_expr (pe_bm0 PySem.F.plainAttrs_list PySem.F.slot_list_reverse PySem.F.type_list_reverse mt_reverse (pv 2)))
  (pss_one (ps_if (pt_cmpR (op_neD hr.units) (pv 3) (pe_lst pa_nil) (nomark _))
  (pss_one (ps_expr (pe_bm PySem.F.plainAttrs_list PySem.F.slot_list_append PySem.F.type_list_append mt_append (pv 3) (pa_cons (pe_bm PySem.F.plainAttrs_list PySem.F.slot_list_pop PySem.F.type_list_pop mt_popAt (pv 3) (pa_cons (pe_call (ok_law_draw T) (hr.mono (by decide)) (by rfl) T.g_law_draw T.F_law_draw.kp T.b_law_draw .nil pass0 (pa_cons (pv 0) (pa_cons (pe_callB call_len_seq (by rfl) T.z_len (by decide +kernel) (pa_cons (pv 3) pa_nil)) pa_nil))) pa_nil)) pa_nil))))
  pss_nil)))))))))))
  (pss_one (ps_ret (pe_and (pe_cmpR op_eq (pe_call (ok_format_cards T) hr (by rfl) T.g_format_cards T.F_format_cards.kp T.b_format_cards .nil pass0 (pa_cons (pe_lst (pa_cons pe_int pa_nil)) (pa_cons (pe_lst pa_nil) pa_nil))) pe_str (nomark _)) (pe_one (pe_cmpR (op_eqD hr.units) (pe_call (ok_parse_cards T) (hr.mono (by decide)) (by rfl) T.g_parse_cards T.F_parse_cards.kp T.b_parse_cards .nil pass0 (pa_cons pe_str pa_nil)) (pe_tup (pa_cons (pe_lst (pa_cons pe_int (pa_cons pe_int pa_nil))) (pa_cons (pe_lst (pa_cons pe_int pa_nil)) pa_nil))) (nomark _)))))))), ?_⟩
    refine ⟨.ref a, rfl, .ref m, rfl, m, _, _, .int m1, rfl, rfl, SqL.of em, atI_nat (j := 0) rfl, a, m1, 0, rfl, hP, by omega, h1, h2, fun c H1 cs nc b1 P1 ec hcs => ?_⟩
    have nca : c ≠ a := hP.ne nc
    have em1 := b1 _ _ nma em
    refine ⟨.ref a, rfl, .ref m, rfl, m, _, _, .int m2, rfl, rfl, SqL.of em1, atI_nat (j := 1) rfl, a, m2, _, rfl, P1, by omega, h3, h4, fun d H2 hs nd b2 P2 ed hhs => ⟨_, _, rfl, ?_⟩⟩
    have nda : d ≠ a := P1.ne nd
    have ec2 := b2 _ _ nca ec
    have ncd : c ≠ d := fun z => by rw [z] at ec; rw [ec] at nd; cases nd
    have B2 := b1.trans b2
    have ndHH : H d = none := But.free b1 P1 nd
    refine ⟨3, rfl, by decide, by decide, ?_⟩
    refine for_range (lo := 0) (n := 3) (fun i σ H' => ∃ (y4 y5 y6 y7 y8 y9 y10 : Option V) (cs hs : List Int), σ = [some (.ref a), some (.ref m), some (.ref c), some (.ref d), y4, y5, y6, y7, y8, y9, y10] ∧ But a H H' ∧ Src H' a (4000 + 100 * i) ∧ H' c = some (.lst (cs.map V.int)) ∧ H' d = some (.lst (hs.map V.int)) ∧ IsStart cs ∧ IsCards hs)
      ⟨_, _, _, _, _, _, _, cs, hs, rfl, B2, P2.mono (by omega), ec2, ed, hcs, hhs⟩ (fun i σ H' hi h => ?_) (fun σ H' h => ?_)
    · clear hcs ed ec ec2 hhs
      obtain ⟨y4, y5, y6, y7, y8, y9, y10, cs, hs, rfl, B, P', ec', ed', hcs, hhs⟩ := h
      have lcs := hcs.len
      have lhs := hhs.len
      have hne : cs ≠ [] := fun z => by rw [z] at lcs; simp at lcs
      have m1 : ∀ x ∈ cs, 0 ≤ x ∧ x ≤ 1000000000000000000000000000000 := fun x hx => hcs.all x hx
      have m2 : ∀ x ∈ hs, 0 ≤ x ∧ x ≤ 1000000000000000000000000000000 := fun x hx => by have := hhs.all x hx; rw [bigE] at this; omega
      have niceCD := two_nice hcs hhs
      -- before
      refine ⟨.ref c, rfl, .ref d, rfl, (by show 2 ≤ sizeLine; decide), fun W nW => ?_⟩
      have sW := same_new (H := H') (p := W) (.lst [.ref c, .ref d]) nW
      refine .inr (.inr ⟨W, _, rfl, .lst (SqL.of upd_same) (.cons (.lst (SqL.of (sW _ _ ec')) (dpInts _)) (.cons (.lst (SqL.of (sW _ _ ed')) (dpInts _)) .nil)), .inl niceCD, ⟨_, _, rfl, ?_⟩⟩)
      have ec3 := sW _ _ ec'
      have ed3 := sW _ _ ed'
      have P3 := P'.same sW
      have B3 := B.trans (But.of sW)
      generalize upd H' W _ = H3 at ec3 ed3 P3 B3 ⊢
      generalize hTx : (PyData.list [.list (cs.map PyData.int), .list (hs.map PyData.int)]).shown = tx
      refine nxG ?_
      -- the words of the start
      refine ⟨.ref c, rfl, c, rfl, ⟨_, SqL.of ec3⟩, ?_⟩
      refine for_list (K := K) (a := c) (xs := cs.map V.int) (fun j σ H'' => H3 = H'' ∧ ∃ y7, σ = [some (.ref a), some (.ref m), some (.ref c), some (.ref d), some (.int (0 + ((i : Nat) : Int))), some (.str tx), some (.str (SS (wr (cs.take j)))), y7, y8, y9, y10])
        ⟨rfl, y7, rfl⟩ (fun j σ H'' _ h => by rw [← h.1]; exact SqL.of ec3) (fun j x σ H'' ex h => ?_) (fun σ H'' h => ?_)
      · obtain ⟨rfl, y7, rfl⟩ := h
        obtain ⟨n, en, rfl⟩ := get_map ex
        have hn := m1 n (List.mem_of_getElem? en)
        have ln := numI_len hn.2
        have lw := wr_len (cs := cs.take j) fun x hx => (m1 x (List.mem_of_mem_take hx)).2
        rw [List.length_take] at lw
        have e0 : (SS (wr (cs.take j))).length = (wr (cs.take j)).length := SX.S_len _
        have e1 : (SS (numI n)).length = (numI n).length := SX.S_len _
        refine ⟨_, rfl, .int n, rfl, n, rfl, log_big hn.1 hn.2, _, _, rfl, rfl, ?_, _, " ", rfl, rfl, ?_, ?_⟩
        · rw [str_num hn.1]; exact sizeN (by rw [e0, e1]; omega)
        · rw [str_num hn.1, SX.S_cat, SX.S_len, List.length_append]
          exact sizeN (by show _ + 1 ≤ _; omega)
        · refine setI (w := .str (SS (wr (cs.take (j + 1))))) ?_ ⟨rfl, _, rfl⟩
          have e : cs.take (j + 1) = cs.take j ++ [n] := by rw [List.take_add_one, en]; rfl
          have e2 : SS (wr (cs.take j)) ++ SS (numI n) ++ SS [32] = SS (wr (cs.take (j + 1))) := by rw [SX.S_cat, SX.S_cat, e, wr_snoc, List.append_assoc]
          rw [← e2, ← str_num hn.1]; rfl
      obtain ⟨rfl, y7', rfl⟩ := h
      rw [List.length_map, List.take_length, wr_join hne]
      have lJ := joinL_len (ps := cs.map numI) (k := 31) fun p hp => by
        obtain ⟨x, hx, rfl⟩ := List.mem_map.mp hp
        exact numI_len (m1 x hx).2
      rw [List.length_map] at lJ
      -- the colon
      refine ⟨_, rfl, 1, rfl, -1, rfl, SS (TL.joinL [32] (cs.map numI) ++ [32]), rfl, by rw [SX.S_len, List.length_append]; exact sizeN (by show _ + 1 ≤ _; omega), ?_⟩
      have eCut : cutS (SS (TL.joinL [32] (cs.map numI) ++ [32])) none (some (-1)) = SS (TL.joinL [32] (cs.map numI)) := by rw [C8.cutS_slice]; exact SX.butlast_snoc _ _
      refine ⟨_, ":", rfl, rfl, by rw [show ((-1 : Int)) = -1 from rfl]; show (cutS _ none (some (-1))).length + 1 ≤ _; rw [eCut, SX.S_len]; exact sizeN (by omega), ?_⟩
      refine setI (w := .str (SS (TL.joinL [32] (cs.map numI) ++ (58 :: tlW (hs.take 0))))) ?_ ?_
      · show V.str (cutS _ none (some (-1)) ++ (":" : Str)) = _
        rw [eCut, show SS (TL.joinL [32] (cs.map numI)) ++ (":" : Str) = SS (TL.joinL [32] (cs.map numI) ++ [58]) from SX.S_cat _ _]; rfl
      -- the words of the cards
      refine ⟨.ref d, rfl, d, rfl, ⟨_, SqL.of ed3⟩, ?_⟩
      refine for_list (K := K) (a := d) (xs := hs.map V.int) (fun j σ H'' => H3 = H'' ∧ ∃ y7, σ = [some (.ref a), some (.ref m), some (.ref c), some (.ref d), some (.int (0 + ((i : Nat) : Int))), some (.str tx), some (.str (SS (TL.joinL [32] (cs.map numI) ++ (58 :: tlW (hs.take j))))), y7, y8, y9, y10])
        ⟨rfl, y7', rfl⟩ (fun j σ H'' _ h => by rw [← h.1]; exact SqL.of ed3) (fun j x σ H'' ex h => ?_) (fun σ H'' h => ?_)
      · obtain ⟨rfl, y7, rfl⟩ := h
        obtain ⟨n, en, rfl⟩ := get_map ex
        have hn := m2 n (List.mem_of_getElem? en)
        have ln := numI_len hn.2
        have lw := tlW_len (cs := hs.take j) fun x hx => (m2 x (List.mem_of_mem_take hx)).2
        rw [List.length_take] at lw
        have e0 : (SS (TL.joinL [32] (cs.map numI) ++ (58 :: tlW (hs.take j)))).length = (TL.joinL [32] (cs.map numI)).length + ((tlW (hs.take j)).length + 1) := by rw [SX.S_len, List.length_append, List.length_cons]
        have e1 : (SS (numI n)).length = (numI n).length := SX.S_len _
        refine ⟨_, rfl, _, " ", rfl, rfl, ?_, .int n, rfl, n, rfl, log_big hn.1 hn.2, _, _, rfl, rfl, ?_, ?_⟩
        · exact sizeN (by rw [e0]; show _ + 1 ≤ _; omega)
        · rw [str_num hn.1, show SS (TL.joinL [32] (cs.map numI) ++ (58 :: tlW (hs.take j))) ++ (" " : Str) = SS ((TL.joinL [32] (cs.map numI) ++ (58 :: tlW (hs.take j))) ++ [32]) from SX.S_cat _ _, SX.S_len, e1, List.length_append, List.length_append, List.length_cons]
          exact sizeN (by simp only [List.length_cons, List.length_nil]; omega)
        · refine setI (w := .str (SS (TL.joinL [32] (cs.map numI) ++ (58 :: tlW (hs.take (j + 1)))))) ?_ ⟨rfl, _, rfl⟩
          have e : hs.take (j + 1) = hs.take j ++ [n] := by rw [List.take_add_one, en]; rfl
          have e2 : SS (TL.joinL [32] (cs.map numI) ++ (58 :: tlW (hs.take j))) ++ SS [32] ++ SS (numI n) = SS (TL.joinL [32] (cs.map numI) ++ (58 :: tlW (hs.take (j + 1)))) := by
            rw [SX.S_cat, SX.S_cat, e, tlW_snoc]
            simp
          rw [← e2, ← str_num hn.1]; rfl
      obtain ⟨rfl, y7', rfl⟩ := h
      rw [List.length_map, List.take_length]
      have eF : TL.joinL [32] (cs.map numI) ++ (58 :: tlW hs) = fmtL cs hs := rfl
      rw [eF]
      have lF := fmt_len (cs := cs) (hs := hs) lcs.2 lhs (fun x hx => (m1 x hx).2) (fun x hx => (m2 x hx).2)
      -- found
      refine ⟨.ref c, rfl, .ref d, rfl, c, d, cs, hs, rfl, SqL.of ec3, SqL.of ed3, hcs, hhs, fun H4 s4 => ?_⟩
      have ec4 := s4 _ _ ec3
      have ed4 := s4 _ _ ed3
      have P4 := P3.same s4
      have B4 := B3.trans (But.of s4)
      refine nxG ?_
      refine ⟨_, rfl, _, rfl, rfl, _, rfl, ite_f nodec ?_⟩
      refine ⟨.ref c, rfl, .ref d, rfl, (by show 2 ≤ sizeLine; decide), fun W2 nW2 => ?_⟩
      have sW2 := same_new (H := H4) (p := W2) (.lst [.ref c, .ref d]) nW2
      refine .inr (.inr ⟨W2, _, rfl, .lst (SqL.of upd_same) (.cons (.lst (SqL.of (sW2 _ _ ec4)) (dpInts _)) (.cons (.lst (SqL.of (sW2 _ _ ed4)) (dpInts _)) .nil)), .inl niceCD, _, rfl, ?_⟩)
      rw [hTx]
      refine ⟨rfl, _, rfl, ite_f nodec (nxT ?_)⟩
      have ec5 := sW2 _ _ ec4
      have ed5 := sW2 _ _ ed4
      have P5 := P4.same sW2
      have B5 := B4.trans (But.of sW2)
      generalize upd H4 W2 _ = H5 at ec5 ed5 P5 B5 ⊢
      -- parsed
      refine ⟨2, rfl, by decide, by decide, ?_⟩
      refine for_range (lo := 0) (n := 2) (fun k σ H'' => Same H5 H'' ∧ ∃ y9 y10, σ = [some (.ref a), some (.ref m), some (.ref c), some (.ref d), some (.int (0 + ((i : Nat) : Int))), some (.str tx), some (.str (SS (fmtL cs hs))), y7', some (.str (SS (fmtL cs hs))), y9, y10])
        ⟨Same.refl _, y9, y10, rfl⟩ (fun k σ H'' hk h => ?_) (fun σ H'' h => ?_)
      · obtain ⟨sm, y9, y10, rfl⟩ := h
        refine ⟨_, rfl, fmtL cs hs, cs, hs, rfl, by omega, prsT_fmt lcs lhs m1 (fun x hx => hhs.all x hx), fun H6 p x y s6 np nx ny nxy nxp nyp ep ex ey => ?_⟩
        have S6 := sm.trans s6
        have npH := sm.free np
        have nxH := sm.free nx
        have nyH := sm.free ny
        refine ⟨.ref p, rfl, .ref c, rfl, .ref d, rfl, (by show 2 ≤ sizeLine; decide), fun t nt => ?_⟩
        have st := same_new (H := H6) (p := t) (.tup [.ref c, .ref d]) nt
        have S7 := S6.trans st
        refine ⟨.ref p, .ref t, rfl, rt_two (st _ _ ep) upd_same (rl_ints (st _ _ ex) (S7 _ _ ec5) (by omega)) (rl_ints (st _ _ ey) (S7 _ _ ed5) (by omega)), fun H7 s7 => ⟨true, rfl, iteF (nxT ?_)⟩⟩
        have S8 := S7.trans s7
        have sx := st.trans s7
        have ep8 := sx _ _ ep
        have ex8 := sx _ _ ex
        have ey8 := sx _ _ ey
        refine ⟨.ref p, rfl, p, _, 0, .ref x, rfl, rfl, SqT.of ep8, rfl, .inl ⟨rfl, _, SqL.of ex8⟩, x, _, _, rfl, rfl, ex8, ?_, ?_⟩
        · rw [List.length_map]; exact small_of (m := 1000) (by omega) (by decide)
        have S9 := same_set (o := .lst (cs.map V.int ++ [.int 1])) S8 nxH
        have ep9 : (upd H7 x (.lst (cs.map V.int ++ [.int 1]))) p = some (.tup [.ref x, .ref y]) := by rw [upd_ne (Ne.symm nxp)]; exact ep8
        have ey9 : (upd H7 x (.lst (cs.map V.int ++ [.int 1]))) y = some (.lst (hs.map V.int)) := by rw [upd_ne (Ne.symm nxy)]; exact ey8
        generalize upd H7 x _ = H8 at S9 ep9 ey9 ⊢
        refine ⟨.ref p, rfl, p, _, 1, .ref y, rfl, rfl, SqT.of ep9, rfl, .inl ⟨rfl, _, SqL.of ey9⟩, y, _, rfl, rfl, ey9, ?_⟩
        have S10 := same_set (o := .lst (hs.map V.int).reverse) S9 nyH
        have ep10 : (upd H8 y (.lst (hs.map V.int).reverse)) p = some (.tup [.ref x, .ref y]) := by rw [upd_ne (Ne.symm nyp)]; exact ep9
        refine ⟨.ref p, rfl, p, _, 1, .ref y, rfl, rfl, SqT.of ep10, rfl, .inl ⟨rfl, _, SqL.of upd_same⟩, y, _, _, rfl, rfl, upd_same, ?_, ?_⟩
        · rw [List.length_reverse, List.length_map]; exact small_of (m := 1000) (by omega) (by decide)
        · exact ⟨same_set S10 nyH, _, _, rfl⟩
      · obtain ⟨sm, y9, y10, rfl⟩ := h
        have ec6 := sm _ _ ec5
        have ed6 := sm _ _ ed5
        have P6 := P5.same sm
        have B6 := B5.trans (But.of sm)
        refine nxG ?_
        refine ⟨.ref c, rfl, .inl ⟨rfl, _, SqL.of ec6⟩, c, _, rfl, rfl, ec6, ?_⟩
        have ec7 : (upd H'' c (.lst (cs.map V.int).reverse)) c = some (.lst (cs.reverse.map V.int)) := by rw [upd_same, List.map_reverse]
        have ed7 : (upd H'' c (.lst (cs.map V.int).reverse)) d = some (.lst (hs.map V.int)) := by rw [upd_ne ncd.symm]; exact ed6
        have P7 := P6.upd (D := c) (o := .lst (cs.map V.int).reverse) nca.symm
        have B7 := but_set (o := .lst (cs.map V.int).reverse) B6 nc
        generalize upd H'' c _ = H7 at ec7 ed7 P7 B7 ⊢
        refine ⟨.ref d, rfl, Nat.zero_le _, fun o no => ?_⟩
        have so := same_new (H := H7) (p := o) (.lst []) no
        refine ⟨_, _, .lst (SqL.of (so _ _ ed7)) (dpInts _), .lst (SqL.of upd_same) .nil, shapedInts _, rfl, _, rfl, ?_⟩
        rw [show (PyData.list []) = .list (([] : List Int).map PyData.int) from rfl, eqv_lst]
        have ec8 := so _ _ ec7
        have ed8 := so _ _ ed7
        have P8 := P7.same so
        have B8 := B7.trans (But.of so)
        generalize upd H7 o _ = H8 at ec8 ed8 P8 B8 ⊢
        refine ite2 (fun hc => ?_) (fun hc => ?_)
        · have hne2 : hs ≠ [] := fun z => by rw [z] at hc; simp at hc
          have hl0 : 0 < hs.length := List.length_pos_iff.mpr hne2
          refine ⟨.ref d, rfl, .inl ⟨rfl, _, SqL.of ed8⟩, .ref d, rfl, .inl ⟨rfl, _, SqL.of ed8⟩, .ref a, rfl, .ref d, rfl, d, _, rfl, .inl (SqL.of ed8), a, _, _, rfl, P8, by omega, by rw [List.length_map]; omega, by rw [List.length_map]; omega, fun r3 H9 b9 P9 r30 r31 => ?_⟩
          rw [List.length_map] at r31
          obtain ⟨k, rfl⟩ := Int.eq_ofNat_of_zero_le r30
          have hk : k < hs.length := by omega
          have ed9 := b9 _ _ nda ed8
          have ec9 := b9 _ _ nca ec8
          have sl : seqIndex? (k : Int) (hs.map V.int).length = some k := by
            rw [List.length_map]
            exact (ixN_seq (ixN_nat hk)).1
          have gk : (hs.map V.int)[k]? = some (.int hs[k]) := by rw [List.getElem?_map, List.getElem?_eq_getElem hk]; rfl
          refine ⟨d, _, k, k, .int hs[k], rfl, rfl, ed9, by omega, by omega, sl, gk, ?_⟩
          refine ⟨d, _, .int hs[k], rfl, rfl, upd_same, ?_, ?_⟩
          · exact small_of (m := 1000) (by rw [List.length_eraseIdx, List.length_map]; split <;> omega) (by decide)
          have pm : (hs.eraseIdx k ++ [hs[k]]).Perm hs := (List.perm_append_comm (l₁ := hs.eraseIdx k) (l₂ := [hs[k]])).trans (erase_permJ hs k hk)
          refine ⟨_, _, _, _, _, _, _, cs.reverse, hs.eraseIdx k ++ [hs[k]], rfl, but_set (but_set (B8.trans b9) ndHH) ndHH, ((P9.upd nda.symm).upd nda.symm).mono (by show _ ≤ 4000 + 100 * ((i : Int) + 1); omega), ?_, ?_, isStart_perm hcs (List.reverse_perm cs), isCards_perm hhs pm⟩
          · rw [upd_ne ncd, upd_ne ncd]; exact ec9
          · rw [upd_same, List.map_append, eraseV]; rfl
        · exact ⟨_, _, _, _, _, _, _, cs.reverse, hs, rfl, B8, P8.mono (by show _ ≤ 4000 + 100 * ((i : Int) + 1); omega), ec8, ed8, isStart_perm hcs (List.reverse_perm cs), hhs⟩
    · obtain ⟨y4, y5, y6, y7, y8, y9, y10, cs, hs, rfl, B, P', ec', ed', _⟩ := h
      refine nxG ?_
      refine ⟨(by show 1 ≤ sizeLine; decide), fun A1 nA1 => ⟨Nat.zero_le _, fun A2 nA2 => ?_⟩⟩
      have sA1 := same_new (H := H') (p := A1) (.lst [.int 0]) nA1
      have sA2 := same_new (p := A2) (.lst []) nA2
      refine ⟨A1, A2, [0], [], rfl, SqL.of (sA2 _ _ upd_same), SqL.of upd_same, ⟨by decide, by decide⟩, ⟨by decide, by decide⟩, fun H5 s5 => ?_⟩
      refine ⟨rfl, true, ?_, iteT ?_⟩
      · show V.bl (decide (V.str (SS (fmtL [0] [])) = V.str (SS [48, 58]))) = _
        rw [decSS]; decide +kernel
      refine ⟨[49, 48, 32, 48, 58, 32, 49], [10, 0], [1], rfl, (by show 7 ≤ 12000; decide), by decide +kernel, fun H6 p x y s6 np nx ny nxy nxp nyp ep ex ey => ?_⟩
      refine ⟨(by show 2 ≤ sizeLine; decide), fun o1 no1 => ⟨(by show 1 ≤ sizeLine; decide), fun o2 no2 => ⟨(by show 2 ≤ sizeLine; decide), fun o3 no3 => ?_⟩⟩⟩
      have t1 := same_new (H := H6) (p := o1) (.lst [.int 10, .int 0]) no1
      have t2 := same_new (p := o2) (.lst [.int 1]) no2
      have t3 := same_new (p := o3) (.tup [.ref o1, .ref o2]) no3
      have tt := t1.trans (t2.trans t3)
      refine ⟨.tuple [.list ([10, 0].map PyData.int), .list ([1].map PyData.int)], .tuple [.list ([10, 0].map PyData.int), .list ([1].map PyData.int)], .tup (SqT.of (tt _ _ ep)) (.cons (.lst (SqL.of (tt _ _ ex)) (dpInts _)) (.cons (.lst (SqL.of (tt _ _ ey)) (dpInts _)) .nil)), .tup (SqT.of upd_same) (.cons (.lst (SqL.of ((t2.trans t3) _ _ upd_same)) (dpInts [10, 0])) (.cons (.lst (SqL.of (t3 _ _ upd_same)) (dpInts [1])) .nil)), by decide +kernel, by decide +kernel, ?_⟩
      rw [show PyData.eqv _ _ = true by decide +kernel]
      exact q _ (B.trans (But.of (sA1.trans (sA2.trans (s5.trans (s6.trans tt))))))
end

section
variable {P : Program} {w : World} {K : PySem.W.Frag} {mg : Str → Option Value} {base : Heap}
def spLaw (K : PySem.W.Frag) : Sp := fun vs H Q _ => ∃ (a : Addr) (ns : List Int), vs = [.ref a] ∧ Scr K H a (ns.map V.int) ∧ ns.length ≤ 63 ∧ ∀ H', Q (.bl true) H'
theorem cut_toG {xs : List Int} {k : Nat} : cutV (xs.map V.int) none (some (k : Int)) = (xs.take k).map V.int := by
  rcases Nat.le_total k xs.length with h | h
  · exact cut_to h
  · unfold cutV
    rw [HT.sIx_nat, HT.sIx_none, List.length_map, Nat.min_eq_right h, ← List.map_drop, ← List.map_take, List.take_of_length_le h]
    show ((xs.drop 0).take (xs.length - 0)).map V.int = _
    rw [List.drop_zero, Nat.sub_zero, List.take_length]
theorem ok_law (T : Txt K mg) : FnG P w K mg base CX0 8 T.a_law T.d_law ["script"] (spLaw K) := by
  refine funG0 T.F_law sc_law (fun vs H Q E h => ?_) (fun cdv A outer s H vs Q E hgu hr h => ?_)
  · obtain ⟨a, ns, rfl, _⟩ := h; rfl
  · obtain ⟨a, ns, rfl, hS, hl, q⟩ := h
    refine ⟨_, (pss_cons (ps_for PassesOwn.never rfl (pi_enum (by rfl) T.z_enumerate (pa_cons (pe_slice sl_list (pe_op op_catR (pv 0) (pe_lst (pa_cons pe_int pa_nil))) po_none (po_some (pe_callB (call_max2 rfl) (by rfl) T.z_max (by decide +kernel) (pa_cons pe_int (pa_cons (pe_callB (call_min2 rfl) (by rfl) T.z_min (by decide +kernel) (pa_cons (pe_callB call_len_seq (by rfl) T.z_len (by decide +kernel) (pa_cons (pv 0) pa_nil)) (pa_cons pe_int pa_nil))) pa_nil))))) pa_nil)) (pg_tup rfl (pgs_cons (pg_name (i := 1) sc_law.nd rfl (.inl rfl)) (pgs_cons (pg_name (i := 2) sc_law.nd rfl (.inl rfl)) pgs_nil)))
  (pss_one (ps_if (pt_not (pt_val (pe_callG (ok_law_holds T) hgu hr (by rfl) T.g_law_holds T.F_law_holds.kp T.b_law_holds .nil pass0 (pa_cons (pe_call (ok_law_source T) (hr.mono (by decide)) (by rfl) T.g_law_source T.F_law_source.kp T.b_law_source .nil pass0 (pa_cons (pv 2) (pa_cons (pv 1) pa_nil))) (pa_cons (pe_ifExp (pt_cmpR (op_neD hr.units) (pv 0) (pe_lst pa_nil) (nomark _)) (pe_lst (pa_cons pe_int (pa_cons pe_int pa_nil))) (pe_lst (pa_cons pe_int (pa_cons pe_int pa_nil)))) pa_nil)))))
  (pss_one (ps_ret pe_bl))
  pss_nil)))
  (pss_one (ps_ret pe_bl))), ?_⟩
    refine ⟨.ref a, rfl, (by show 1 ≤ sizeLine; decide), fun o no => ?_⟩
    have so := same_new (H := H) (p := o) (.lst [.int 0]) no
    refine ⟨a, o, _, _, rfl, rfl, (hS.same so).sq, SqL.of upd_same, ?_, fun z nz => ?_⟩
    · rw [List.length_map]; exact small_le (m := 100) (by simp only [List.length_cons, List.length_nil]; omega) (by decide)
    have sz := same_new (p := z) (.lst (ns.map V.int ++ [.int 0])) nz
    have ez : (upd (upd H o (.lst [.int 0])) z (.lst (ns.map V.int ++ [.int 0]))) z = some (.lst ((ns ++ [0]).map V.int)) := by rw [upd_same, List.map_append]; rfl
    have S1 := so.trans sz
    generalize upd (upd H o _) z _ = H1 at ez S1 ⊢
    refine ⟨.ref a, rfl, a, _, rfl, .inl (hS.same S1).sq, _, 12, rfl, 1, _, rfl, _, rfl, z, _, rfl, SqL.of ez, fun p2 np2 => ?_⟩
    rw [List.length_map]
    generalize hN : (if (if ((ns.length : Nat) : Int) > 12 then (12 : Int) else ((ns.length : Nat) : Int)) > 1 then (if ((ns.length : Nat) : Int) > 12 then (12 : Int) else ((ns.length : Nat) : Int)) else 1) = N
    have hN2 : 1 ≤ N ∧ N ≤ 12 := by
      rw [← hN]
      split <;> split <;> omega
    obtain ⟨k, rfl⟩ := Int.eq_ofNat_of_zero_le (show 0 ≤ N by omega)
    rw [cut_toG]
    have s2 := same_new (H := H1) (p := p2) (.lst (((ns ++ [0]).take k).map V.int)) np2
    have e2 : (upd H1 p2 (.lst (((ns ++ [0]).take k).map V.int))) p2 = some (.lst (((ns ++ [0]).take k).map V.int)) := upd_same
    have S2 := S1.trans s2
    generalize upd H1 p2 _ = H2 at S2 e2 ⊢
    generalize hcs : (ns ++ [0]).take k = cs at e2
    have lc : cs.length ≤ 12 := by rw [← hcs, List.length_take]; omega
    refine ⟨p2, _, rfl, SqL.of e2, ?_⟩
    refine for_enum (K := K) (a := p2) (xs := cs.map V.int) (fun i σ H' => ∃ y1 y2, σ = [some (.ref a), y1, y2] ∧ Same H2 H') ⟨none, none, rfl, Same.refl _⟩ (fun i σ H' _ h => ?_) (fun i x σ H' Tp ex h nTp => ?_) (fun σ H' h => ?_)
    · obtain ⟨_, _, _, s'⟩ := h
      exact SqL.of (s' _ _ e2)
    · obtain ⟨y1, y2, rfl, s'⟩ := h
      obtain ⟨cell, ec, rfl⟩ := get_map ex
      have hi := get_lt ec
      have sT := same_new (H := H') (p := Tp) (.tup [.int (i : Nat), .int cell]) nTp
      refine ⟨Tp, [_, _], rfl, SqT.of upd_same, rfl, _, [_], rfl, _, [], rfl, rfl, ?_⟩
      have S3 := s'.trans sT
      refine ⟨.int cell, rfl, .int (i : Nat), rfl, cell, i, rfl, by omega, by omega, fun p H4 np s4 P4 => ?_⟩
      have S4 := S3.trans s4
      have np2' : H2 p = none := S3.free np
      have hS4 := hS.same (S2.trans S4)
      refine ⟨.ref a, rfl, Nat.zero_le _, fun o no => ⟨_, _, .lst ((hS4.same (same_new _ no)).sq) (dpInts ns), .lst (SqL.of upd_same) .nil, shapedInts ns, rfl, _, rfl, ?_⟩⟩
      have so := same_new (H := H4) (p := o) (.lst []) no
      have P5 := P4.same so
      have S5 := S4.trans so
      generalize upd H4 o _ = H5 at P5 S5 ⊢
      have rest : ∀ m1 m2 : Int, 1 ≤ m1 → m1 ≤ 30 → 1 ≤ m2 → m2 ≤ 200 → ∀ m, H5 m = none → spHolds K [.ref p, .ref m] (upd H5 m (.lst [.int m1, .int m2])) (fun v H6 => v = .bl true ∧ Same H2 H6) (fun _ _ _ => False) := fun m1 m2 h1 h2 h3 h4 m nm =>
        ⟨p, m, m1, m2, rfl, P5.same (same_new _ nm), upd_same, h1, h2, h3, h4, P5.ne nm, fun H6 b6 => ⟨rfl, same_but (S5.trans (same_new _ nm)) np2' b6⟩⟩
      refine ite2 (fun hc => ?_) (fun hc => ?_)
      · refine ⟨(by show 2 ≤ sizeLine; decide), fun m nm => ?_⟩
        obtain ⟨a', m', m1', m2', e0, f0, f1, f2, f3, f4, f5, f6, f7⟩ := rest 30 200 (by decide) (by decide) (by decide) (by decide) m nm
        exact ⟨a', m', m1', m2', e0, f0, f1, f2, f3, f4, f5, f6, fun H6 b6 => ⟨true, rfl, iteF ⟨_, _, rfl, (f7 H6 b6).2⟩⟩⟩
      · refine ⟨(by show 2 ≤ sizeLine; decide), fun m nm => ?_⟩
        obtain ⟨a', m', m1', m2', e0, f0, f1, f2, f3, f4, f5, f6, f7⟩ := rest 3 6 (by decide) (by decide) (by decide) (by decide) m nm
        exact ⟨a', m', m1', m2', e0, f0, f1, f2, f3, f4, f5, f6, fun H6 b6 => ⟨true, rfl, iteF ⟨_, _, rfl, (f7 H6 b6).2⟩⟩⟩
    · exact q H'
end

set_option maxHeartbeats 4000000 in
theorem all_mk {l : PySem.W.OpenLaw} {w : World} {K : PySem.W.Frag} {h : Heap} {mg : Str → Option Value} {fa : Addr}
  (X : K.In h) (G : h.Ns mainGlobals mg) (hfa : mg "law" = some (.ref fa))
  {CLowcolumnsError : Addr} {ocLowcolumnsError : Value} {odLowcolumnsError : Option Addr} {cdLowcolumnsError : ClassData} {osLowcolumnsError : Array (Option Value)}
  {CInvalidStartError : Addr} {ocInvalidStartError : Value} {odInvalidStartError : Option Addr} {cdInvalidStartError : ClassData} {osInvalidStartError : Array (Option Value)}
  {CInvalidCardsError : Addr} {ocInvalidCardsError : Value} {odInvalidCardsError : Option Addr} {cdInvalidCardsError : ClassData} {osInvalidCardsError : Array (Option Value)}
  {CInvalidFormatError : Addr} {ocInvalidFormatError : Value} {odInvalidFormatError : Option Addr} {cdInvalidFormatError : ClassData} {osInvalidFormatError : Array (Option Value)}
  {od0 an0 : Option Addr} {sl0 : Array (Option Value)} {oc0 kV0 dc0 pm0 cd0 ct0 : Value} {f0 : Addr}
  {od1 an1 : Option Addr} {sl1 : Array (Option Value)} {oc1 kV1 dc1 pm1 cd1 ct1 : Value} {f1 : Addr}
  {od2 an2 : Option Addr} {sl2 : Array (Option Value)} {oc2 kV2 dc2 pm2 cd2 ct2 : Value} {f2 : Addr}
  {od3 an3 : Option Addr} {sl3 : Array (Option Value)} {oc3 kV3 dc3 pm3 cd3 ct3 : Value} {f3 : Addr}
  {od4 an4 : Option Addr} {sl4 : Array (Option Value)} {oc4 kV4 dc4 pm4 cd4 ct4 : Value} {f4 : Addr}
  {od5 an5 : Option Addr} {sl5 : Array (Option Value)} {oc5 kV5 dc5 pm5 cd5 ct5 : Value} {f5 : Addr}
  {od6 an6 : Option Addr} {sl6 : Array (Option Value)} {oc6 kV6 dc6 pm6 cd6 ct6 : Value} {f6 : Addr}
  {od7 an7 : Option Addr} {sl7 : Array (Option Value)} {oc7 kV7 dc7 pm7 cd7 ct7 : Value} {f7 : Addr}
  {od8 an8 : Option Addr} {sl8 : Array (Option Value)} {oc8 kV8 dc8 pm8 cd8 ct8 : Value} {f8 : Addr}
  {od9 an9 : Option Addr} {sl9 : Array (Option Value)} {oc9 kV9 dc9 pm9 cd9 ct9 : Value} {f9 : Addr}
  {od10 an10 : Option Addr} {sl10 : Array (Option Value)} {oc10 kV10 dc10 pm10 cd10 ct10 : Value} {f10 : Addr}
  {od11 an11 : Option Addr} {sl11 : Array (Option Value)} {oc11 kV11 dc11 pm11 cd11 ct11 : Value} {f11 : Addr}
  {od12 an12 : Option Addr} {sl12 : Array (Option Value)} {oc12 kV12 dc12 pm12 cd12 ct12 : Value} {f12 : Addr}
  {od13 an13 : Option Addr} {sl13 : Array (Option Value)} {oc13 kV13 dc13 pm13 cd13 ct13 : Value} {f13 : Addr}
  {od14 an14 : Option Addr} {sl14 : Array (Option Value)} {oc14 kV14 dc14 pm14 cd14 ct14 : Value} {f14 : Addr}
  {od15 an15 : Option Addr} {sl15 : Array (Option Value)} {oc15 kV15 dc15 pm15 cd15 ct15 : Value} {f15 : Addr}
  {od16 an16 : Option Addr} {sl16 : Array (Option Value)} {oc16 kV16 dc16 pm16 cd16 ct16 : Value} {f16 : Addr}
  (gLowcolumnsError : PySem.W.nsIn K mainGlobals "LowcolumnsError" = some (some (.ref CLowcolumnsError)))
  (gInvalidStartError : PySem.W.nsIn K mainGlobals "InvalidStartError" = some (some (.ref CInvalidStartError)))
  (gInvalidCardsError : PySem.W.nsIn K mainGlobals "InvalidCardsError" = some (some (.ref CInvalidCardsError)))
  (gInvalidFormatError : PySem.W.nsIn K mainGlobals "InvalidFormatError" = some (some (.ref CInvalidFormatError)))
  (mLowcolumnsError : K.lookup CLowcolumnsError = some ⟨ocLowcolumnsError, odLowcolumnsError, .cls cdLowcolumnsError, osLowcolumnsError⟩) (rLowcolumnsError : cdLowcolumnsError.mro = [.ref CLowcolumnsError, .type "ValueError", .type "Exception", .type "BaseException", .type "object"])
  (xLowcolumnsError : PySem.W.excIn K CLowcolumnsError [.type "ValueError", .type "Exception", .type "BaseException", .type "object"] "ValueError.__new__" = true)
  (kLowcolumnsError : PySem.W.keepIn K (.ref CLowcolumnsError) = true) (tLowcolumnsError : PySem.W.typeIn K (.ref CLowcolumnsError) = some (.type "type"))
  (caLowcolumnsError : PySem.W.findIn K (.ref CLowcolumnsError) "__getattribute__" = some (some (.builtin "BaseException.__getattribute__")))
  (cbLowcolumnsError : PySem.W.findIn K (.ref CLowcolumnsError) "__getattr__" = some none)
  (ccLowcolumnsError : PySem.W.subIn K (.ref CLowcolumnsError) (.type "BaseException") = some true)
  (ckLowcolumnsError : PySem.W.hasDictIn K CLowcolumnsError = true)
  (ceLowcolumnsError : PySem.W.findIn K (.ref CLowcolumnsError) "__class__" = some (some (.builtin "object.__class__")))
  (chLowcolumnsError : PySem.W.mroIn K CLowcolumnsError (.type "object") = some true)
  (mInvalidStartError : K.lookup CInvalidStartError = some ⟨ocInvalidStartError, odInvalidStartError, .cls cdInvalidStartError, osInvalidStartError⟩) (rInvalidStartError : cdInvalidStartError.mro = [.ref CInvalidStartError, .ref CLowcolumnsError, .type "ValueError", .type "Exception", .type "BaseException", .type "object"])
  (xInvalidStartError : PySem.W.excIn K CInvalidStartError [.type "ValueError", .type "Exception", .type "BaseException", .type "object"] "ValueError.__new__" = true)
  (kInvalidStartError : PySem.W.keepIn K (.ref CInvalidStartError) = true) (tInvalidStartError : PySem.W.typeIn K (.ref CInvalidStartError) = some (.type "type"))
  (caInvalidStartError : PySem.W.findIn K (.ref CInvalidStartError) "__getattribute__" = some (some (.builtin "BaseException.__getattribute__")))
  (cbInvalidStartError : PySem.W.findIn K (.ref CInvalidStartError) "__getattr__" = some none)
  (ccInvalidStartError : PySem.W.subIn K (.ref CInvalidStartError) (.type "BaseException") = some true)
  (ckInvalidStartError : PySem.W.hasDictIn K CInvalidStartError = true)
  (ceInvalidStartError : PySem.W.findIn K (.ref CInvalidStartError) "__class__" = some (some (.builtin "object.__class__")))
  (chInvalidStartError : PySem.W.mroIn K CInvalidStartError (.type "object") = some true)
  (mInvalidCardsError : K.lookup CInvalidCardsError = some ⟨ocInvalidCardsError, odInvalidCardsError, .cls cdInvalidCardsError, osInvalidCardsError⟩) (rInvalidCardsError : cdInvalidCardsError.mro = [.ref CInvalidCardsError, .ref CLowcolumnsError, .type "ValueError", .type "Exception", .type "BaseException", .type "object"])
  (xInvalidCardsError : PySem.W.excIn K CInvalidCardsError [.type "ValueError", .type "Exception", .type "BaseException", .type "object"] "ValueError.__new__" = true)
  (kInvalidCardsError : PySem.W.keepIn K (.ref CInvalidCardsError) = true) (tInvalidCardsError : PySem.W.typeIn K (.ref CInvalidCardsError) = some (.type "type"))
  (caInvalidCardsError : PySem.W.findIn K (.ref CInvalidCardsError) "__getattribute__" = some (some (.builtin "BaseException.__getattribute__")))
  (cbInvalidCardsError : PySem.W.findIn K (.ref CInvalidCardsError) "__getattr__" = some none)
  (ccInvalidCardsError : PySem.W.subIn K (.ref CInvalidCardsError) (.type "BaseException") = some true)
  (ckInvalidCardsError : PySem.W.hasDictIn K CInvalidCardsError = true)
  (ceInvalidCardsError : PySem.W.findIn K (.ref CInvalidCardsError) "__class__" = some (some (.builtin "object.__class__")))
  (chInvalidCardsError : PySem.W.mroIn K CInvalidCardsError (.type "object") = some true)
  (mInvalidFormatError : K.lookup CInvalidFormatError = some ⟨ocInvalidFormatError, odInvalidFormatError, .cls cdInvalidFormatError, osInvalidFormatError⟩) (rInvalidFormatError : cdInvalidFormatError.mro = [.ref CInvalidFormatError, .ref CLowcolumnsError, .type "ValueError", .type "Exception", .type "BaseException", .type "object"])
  (xInvalidFormatError : PySem.W.excIn K CInvalidFormatError [.type "ValueError", .type "Exception", .type "BaseException", .type "object"] "ValueError.__new__" = true)
  (kInvalidFormatError : PySem.W.keepIn K (.ref CInvalidFormatError) = true) (tInvalidFormatError : PySem.W.typeIn K (.ref CInvalidFormatError) = some (.type "type"))
  (caInvalidFormatError : PySem.W.findIn K (.ref CInvalidFormatError) "__getattribute__" = some (some (.builtin "BaseException.__getattribute__")))
  (cbInvalidFormatError : PySem.W.findIn K (.ref CInvalidFormatError) "__getattr__" = some none)
  (ccInvalidFormatError : PySem.W.subIn K (.ref CInvalidFormatError) (.type "BaseException") = some true)
  (ckInvalidFormatError : PySem.W.hasDictIn K CInvalidFormatError = true)
  (ceInvalidFormatError : PySem.W.findIn K (.ref CInvalidFormatError) "__class__" = some (some (.builtin "object.__class__")))
  (chInvalidFormatError : PySem.W.mroIn K CInvalidFormatError (.type "object") = some true)
  (cf : PySem.W.specialIn K (.builtin "object.__class__") "__get__" = some (some (.builtin "getset_descriptor.__get__")))
  (cg : PySem.W.takesIn K (.builtin "object.__class__") = some true)
  (ndc : [CInvalidCardsError, CInvalidFormatError, CInvalidStartError, CLowcolumnsError].Nodup)
  (a0 : PySem.W.nsIn K mainGlobals "is_integer_within" = some (some (.ref f0)))
  (l0 : K.lookup f0 = some ⟨oc0, od0, .func (PySem.W.fnOf "is_integer_within" "is_integer_within" (defArgs s_is_integer_within) (defBody s_is_integer_within) (defScope s_is_integer_within) .none kV0 dc0 pm0 an0 cd0 ct0), sl0⟩)
  (c0 : PySem.W.codeIn K cd0 "is_integer_within" = true) (k0 : PySem.W.keepIn K (.ref f0) = true)
  (a1 : PySem.W.nsIn K mainGlobals "is_list_of_integers" = some (some (.ref f1)))
  (l1 : K.lookup f1 = some ⟨oc1, od1, .func (PySem.W.fnOf "is_list_of_integers" "is_list_of_integers" (defArgs s_is_list_of_integers) (defBody s_is_list_of_integers) (defScope s_is_list_of_integers) .none kV1 dc1 pm1 an1 cd1 ct1), sl1⟩)
  (c1 : PySem.W.codeIn K cd1 "is_list_of_integers" = true) (k1 : PySem.W.keepIn K (.ref f1) = true)
  (a2 : PySem.W.nsIn K mainGlobals "is_start" = some (some (.ref f2)))
  (l2 : K.lookup f2 = some ⟨oc2, od2, .func (PySem.W.fnOf "is_start" "is_start" (defArgs s_is_start) (defBody s_is_start) (defScope s_is_start) .none kV2 dc2 pm2 an2 cd2 ct2), sl2⟩)
  (c2 : PySem.W.codeIn K cd2 "is_start" = true) (k2 : PySem.W.keepIn K (.ref f2) = true)
  (a3 : PySem.W.nsIn K mainGlobals "is_cards" = some (some (.ref f3)))
  (l3 : K.lookup f3 = some ⟨oc3, od3, .func (PySem.W.fnOf "is_cards" "is_cards" (defArgs s_is_cards) (defBody s_is_cards) (defScope s_is_cards) .none kV3 dc3 pm3 an3 cd3 ct3), sl3⟩)
  (c3 : PySem.W.codeIn K cd3 "is_cards" = true) (k3 : PySem.W.keepIn K (.ref f3) = true)
  (a4 : PySem.W.nsIn K mainGlobals "check_start" = some (some (.ref f4)))
  (l4 : K.lookup f4 = some ⟨oc4, od4, .func (PySem.W.fnOf "check_start" "check_start" (defArgs s_check_start) (defBody s_check_start) (defScope s_check_start) .none kV4 dc4 pm4 an4 cd4 ct4), sl4⟩)
  (c4 : PySem.W.codeIn K cd4 "check_start" = true) (k4 : PySem.W.keepIn K (.ref f4) = true)
  (a5 : PySem.W.nsIn K mainGlobals "check_cards" = some (some (.ref f5)))
  (l5 : K.lookup f5 = some ⟨oc5, od5, .func (PySem.W.fnOf "check_cards" "check_cards" (defArgs s_check_cards) (defBody s_check_cards) (defScope s_check_cards) .none kV5 dc5 pm5 an5 cd5 ct5), sl5⟩)
  (c5 : PySem.W.codeIn K cd5 "check_cards" = true) (k5 : PySem.W.keepIn K (.ref f5) = true)
  (a6 : PySem.W.nsIn K mainGlobals "check_start_and_cards" = some (some (.ref f6)))
  (l6 : K.lookup f6 = some ⟨oc6, od6, .func (PySem.W.fnOf "check_start_and_cards" "check_start_and_cards" (defArgs s_check_start_and_cards) (defBody s_check_start_and_cards) (defScope s_check_start_and_cards) .none kV6 dc6 pm6 an6 cd6 ct6), sl6⟩)
  (c6 : PySem.W.codeIn K cd6 "check_start_and_cards" = true) (k6 : PySem.W.keepIn K (.ref f6) = true)
  (a7 : PySem.W.nsIn K mainGlobals "format_cards" = some (some (.ref f7)))
  (l7 : K.lookup f7 = some ⟨oc7, od7, .func (PySem.W.fnOf "format_cards" "format_cards" (defArgs s_format_cards) (defBody s_format_cards) (defScope s_format_cards) .none kV7 dc7 pm7 an7 cd7 ct7), sl7⟩)
  (c7 : PySem.W.codeIn K cd7 "format_cards" = true) (k7 : PySem.W.keepIn K (.ref f7) = true)
  (a8 : PySem.W.nsIn K mainGlobals "is_numeral" = some (some (.ref f8)))
  (l8 : K.lookup f8 = some ⟨oc8, od8, .func (PySem.W.fnOf "is_numeral" "is_numeral" (defArgs s_is_numeral) (defBody s_is_numeral) (defScope s_is_numeral) .none kV8 dc8 pm8 an8 cd8 ct8), sl8⟩)
  (c8 : PySem.W.codeIn K cd8 "is_numeral" = true) (k8 : PySem.W.keepIn K (.ref f8) = true)
  (a9 : PySem.W.nsIn K mainGlobals "parse_cards" = some (some (.ref f9)))
  (l9 : K.lookup f9 = some ⟨oc9, od9, .func (PySem.W.fnOf "parse_cards" "parse_cards" (defArgs s_parse_cards) (defBody s_parse_cards) (defScope s_parse_cards) .none kV9 dc9 pm9 an9 cd9 ct9), sl9⟩)
  (c9 : PySem.W.codeIn K cd9 "parse_cards" = true) (k9 : PySem.W.keepIn K (.ref f9) = true)
  (a10 : PySem.W.nsIn K mainGlobals "_law_source" = some (some (.ref f10)))
  (l10 : K.lookup f10 = some ⟨oc10, od10, .func (PySem.W.fnOf "_law_source" "_law_source" (defArgs s_law_source) (defBody s_law_source) (defScope s_law_source) .none kV10 dc10 pm10 an10 cd10 ct10), sl10⟩)
  (c10 : PySem.W.codeIn K cd10 "_law_source" = true) (k10 : PySem.W.keepIn K (.ref f10) = true)
  (a11 : PySem.W.nsIn K mainGlobals "_law_draw" = some (some (.ref f11)))
  (l11 : K.lookup f11 = some ⟨oc11, od11, .func (PySem.W.fnOf "_law_draw" "_law_draw" (defArgs s_law_draw) (defBody s_law_draw) (defScope s_law_draw) .none kV11 dc11 pm11 an11 cd11 ct11), sl11⟩)
  (c11 : PySem.W.codeIn K cd11 "_law_draw" = true) (k11 : PySem.W.keepIn K (.ref f11) = true)
  (a12 : PySem.W.nsIn K mainGlobals "_law_start" = some (some (.ref f12)))
  (l12 : K.lookup f12 = some ⟨oc12, od12, .func (PySem.W.fnOf "_law_start" "_law_start" (defArgs s_law_start) (defBody s_law_start) (defScope s_law_start) .none kV12 dc12 pm12 an12 cd12 ct12), sl12⟩)
  (c12 : PySem.W.codeIn K cd12 "_law_start" = true) (k12 : PySem.W.keepIn K (.ref f12) = true)
  (a13 : PySem.W.nsIn K mainGlobals "_law_cards" = some (some (.ref f13)))
  (l13 : K.lookup f13 = some ⟨oc13, od13, .func (PySem.W.fnOf "_law_cards" "_law_cards" (defArgs s_law_cards) (defBody s_law_cards) (defScope s_law_cards) .none kV13 dc13 pm13 an13 cd13 ct13), sl13⟩)
  (c13 : PySem.W.codeIn K cd13 "_law_cards" = true) (k13 : PySem.W.keepIn K (.ref f13) = true)
  (a14 : PySem.W.nsIn K mainGlobals "_law_equal" = some (some (.ref f14)))
  (l14 : K.lookup f14 = some ⟨oc14, od14, .func (PySem.W.fnOf "_law_equal" "_law_equal" (defArgs s_law_equal) (defBody s_law_equal) (defScope s_law_equal) .none kV14 dc14 pm14 an14 cd14 ct14), sl14⟩)
  (c14 : PySem.W.codeIn K cd14 "_law_equal" = true) (k14 : PySem.W.keepIn K (.ref f14) = true)
  (a15 : PySem.W.nsIn K mainGlobals "_law_holds" = some (some (.ref f15)))
  (l15 : K.lookup f15 = some ⟨oc15, od15, .func (PySem.W.fnOf "_law_holds" "_law_holds" (defArgs s_law_holds) (defBody s_law_holds) (defScope s_law_holds) .none kV15 dc15 pm15 an15 cd15 ct15), sl15⟩)
  (c15 : PySem.W.codeIn K cd15 "_law_holds" = true) (k15 : PySem.W.keepIn K (.ref f15) = true)
  (a16 : PySem.W.nsIn K mainGlobals "law" = some (some (.ref f16)))
  (l16 : K.lookup f16 = some ⟨oc16, od16, .func (PySem.W.fnOf "law" "law" (defArgs s_law) (defBody s_law) (defScope s_law) .none kV16 dc16 pm16 an16 cd16 ct16), sl16⟩)
  (c16 : PySem.W.codeIn K cd16 "law" = true) (k16 : PySem.W.keepIn K (.ref f16) = true)
  (z_isinstance : PySem.W.nsIn K mainGlobals "isinstance" = some none)
  (z_bool : PySem.W.nsIn K mainGlobals "bool" = some none)
  (z_int : PySem.W.nsIn K mainGlobals "int" = some none)
  (z_len : PySem.W.nsIn K mainGlobals "len" = some none)
  (z_type : PySem.W.nsIn K mainGlobals "type" = some none)
  (z_list : PySem.W.nsIn K mainGlobals "list" = some none)
  (z_all : PySem.W.nsIn K mainGlobals "all" = some none)
  (z_str : PySem.W.nsIn K mainGlobals "str" = some none)
  (z_max : PySem.W.nsIn K mainGlobals "max" = some none)
  (z_min : PySem.W.nsIn K mainGlobals "min" = some none)
  (z_range : PySem.W.nsIn K mainGlobals "range" = some none)
  (z_tuple : PySem.W.nsIn K mainGlobals "tuple" = some none)
  (z_zip : PySem.W.nsIn K mainGlobals "zip" = some none)
  (z_repr : PySem.W.nsIn K mainGlobals "repr" = some none)
  (z_enumerate : PySem.W.nsIn K mainGlobals "enumerate" = some none)
  {t_MOST_HEIGHT : Tok} (c_MOST_HEIGHT : PySem.W.nsIn K mainGlobals "MOST_HEIGHT" = some (some (.int (1000000000000000000000000000000) t_MOST_HEIGHT)))
  {t_MOST_COLUMNS : Tok} (c_MOST_COLUMNS : PySem.W.nsIn K mainGlobals "MOST_COLUMNS" = some (some (.int (30) t_MOST_COLUMNS)))
  {t_MOST_CARDS : Tok} (c_MOST_CARDS : PySem.W.nsIn K mainGlobals "MOST_CARDS" = some (some (.int (200) t_MOST_CARDS)))
  {t_MOST_DIGITS : Tok} (c_MOST_DIGITS : PySem.W.nsIn K mainGlobals "MOST_DIGITS" = some (some (.int (31) t_MOST_DIGITS)))
  {t_DIGITS : Tok} (c_DIGITS : PySem.W.nsIn K mainGlobals "DIGITS" = some (some (.str ("0123456789") t_DIGITS))) :
    ∃ fd : FuncData, (∀ (s : Shared) (v : Value), BindsTo s fd ⟨[v], []⟩ [("script", v)]) ∧
      ∀ base : Heap, K.In base → base.Ns mainGlobals mg → FnG l.prog w K mg base CX0 8 fa fd ["script"] (spLaw K) := by
  have e := hfa.symm.trans (PySem.W.mg_of X G a16)
  cases e
  have F0 := fun_mk (st := s_is_integer_within) l0 c0 k0
  have b0 := F0.binds (ps := ["value", "least", "greatest"]) fun _ _ _ _ _ _ us hl => match us, hl with | [_, _, _], _ => rfl
  have F1 := fun_mk (st := s_is_list_of_integers) l1 c1 k1
  have b1 := F1.binds (ps := ["value", "fewest", "most", "least", "greatest"]) fun _ _ _ _ _ _ us hl => match us, hl with | [_, _, _, _, _], _ => rfl
  have F2 := fun_mk (st := s_is_start) l2 c2 k2
  have b2 := F2.binds (ps := ["value"]) fun _ _ _ _ _ _ us hl => match us, hl with | [_], _ => rfl
  have F3 := fun_mk (st := s_is_cards) l3 c3 k3
  have b3 := F3.binds (ps := ["value"]) fun _ _ _ _ _ _ us hl => match us, hl with | [_], _ => rfl
  have F4 := fun_mk (st := s_check_start) l4 c4 k4
  have b4 := F4.binds (ps := ["start"]) fun _ _ _ _ _ _ us hl => match us, hl with | [_], _ => rfl
  have F5 := fun_mk (st := s_check_cards) l5 c5 k5
  have b5 := F5.binds (ps := ["heights"]) fun _ _ _ _ _ _ us hl => match us, hl with | [_], _ => rfl
  have F6 := fun_mk (st := s_check_start_and_cards) l6 c6 k6
  have b6 := F6.binds (ps := ["start", "heights"]) fun _ _ _ _ _ _ us hl => match us, hl with | [_, _], _ => rfl
  have F7 := fun_mk (st := s_format_cards) l7 c7 k7
  have b7 := F7.binds (ps := ["start", "heights"]) fun _ _ _ _ _ _ us hl => match us, hl with | [_, _], _ => rfl
  have F8 := fun_mk (st := s_is_numeral) l8 c8 k8
  have b8 := F8.binds (ps := ["word"]) fun _ _ _ _ _ _ us hl => match us, hl with | [_], _ => rfl
  have F9 := fun_mk (st := s_parse_cards) l9 c9 k9
  have b9 := F9.binds (ps := ["text"]) fun _ _ _ _ _ _ us hl => match us, hl with | [_], _ => rfl
  have F10 := fun_mk (st := s_law_source) l10 c10 k10
  have b10 := F10.binds (ps := ["cell", "k"]) fun _ _ _ _ _ _ us hl => match us, hl with | [_, _], _ => rfl
  have F11 := fun_mk (st := s_law_draw) l11 c11 k11
  have b11 := F11.binds (ps := ["source", "count"]) fun _ _ _ _ _ _ us hl => match us, hl with | [_, _], _ => rfl
  have F12 := fun_mk (st := s_law_start) l12 c12 k12
  have b12 := F12.binds (ps := ["source", "most"]) fun _ _ _ _ _ _ us hl => match us, hl with | [_, _], _ => rfl
  have F13 := fun_mk (st := s_law_cards) l13 c13 k13
  have b13 := F13.binds (ps := ["source", "most"]) fun _ _ _ _ _ _ us hl => match us, hl with | [_, _], _ => rfl
  have F14 := fun_mk (st := s_law_equal) l14 c14 k14
  have b14 := F14.binds (ps := ["result", "expected"]) fun _ _ _ _ _ _ us hl => match us, hl with | [_, _], _ => rfl
  have F15 := fun_mk (st := s_law_holds) l15 c15 k15
  have b15 := F15.binds (ps := ["source", "most"]) fun _ _ _ _ _ _ us hl => match us, hl with | [_, _], _ => rfl
  have F16 := fun_mk (st := s_law) l16 c16 k16
  have b16 := F16.binds (ps := ["script"]) fun _ _ _ _ _ _ us hl => match us, hl with | [_], _ => rfl
  exact ⟨_, fun s v => .of_eq rfl, fun base _ _ => ok_law (⟨CLowcolumnsError, CInvalidStartError, CInvalidCardsError, CInvalidFormatError, ⟨PySem.W.mg_of X G gLowcolumnsError, cls_mr mLowcolumnsError rLowcolumnsError, xLowcolumnsError, kLowcolumnsError, tLowcolumnsError, ⟨caLowcolumnsError, cbLowcolumnsError, ccLowcolumnsError, ckLowcolumnsError, ceLowcolumnsError, cf, cg, chLowcolumnsError⟩⟩, ⟨PySem.W.mg_of X G gInvalidStartError, cls_mr mInvalidStartError rInvalidStartError, xInvalidStartError, kInvalidStartError, tInvalidStartError, ⟨caInvalidStartError, cbInvalidStartError, ccInvalidStartError, ckInvalidStartError, ceInvalidStartError, cf, cg, chInvalidStartError⟩⟩, ⟨PySem.W.mg_of X G gInvalidCardsError, cls_mr mInvalidCardsError rInvalidCardsError, xInvalidCardsError, kInvalidCardsError, tInvalidCardsError, ⟨caInvalidCardsError, cbInvalidCardsError, ccInvalidCardsError, ckInvalidCardsError, ceInvalidCardsError, cf, cg, chInvalidCardsError⟩⟩, ⟨PySem.W.mg_of X G gInvalidFormatError, cls_mr mInvalidFormatError rInvalidFormatError, xInvalidFormatError, kInvalidFormatError, tInvalidFormatError, ⟨caInvalidFormatError, cbInvalidFormatError, ccInvalidFormatError, ckInvalidFormatError, ceInvalidFormatError, cf, cg, chInvalidFormatError⟩⟩, ndc, f0, _, F0, b0, (PySem.W.mg_of X G a0), f1, _, F1, b1, (PySem.W.mg_of X G a1), f2, _, F2, b2, (PySem.W.mg_of X G a2), f3, _, F3, b3, (PySem.W.mg_of X G a3), f4, _, F4, b4, (PySem.W.mg_of X G a4), f5, _, F5, b5, (PySem.W.mg_of X G a5), f6, _, F6, b6, (PySem.W.mg_of X G a6), f7, _, F7, b7, (PySem.W.mg_of X G a7), f8, _, F8, b8, (PySem.W.mg_of X G a8), f9, _, F9, b9, (PySem.W.mg_of X G a9), f10, _, F10, b10, (PySem.W.mg_of X G a10), f11, _, F11, b11, (PySem.W.mg_of X G a11), f12, _, F12, b12, (PySem.W.mg_of X G a12), f13, _, F13, b13, (PySem.W.mg_of X G a13), f14, _, F14, b14, (PySem.W.mg_of X G a14), f15, _, F15, b15, (PySem.W.mg_of X G a15), fa, _, F16, b16, (PySem.W.mg_of X G a16), (PySem.W.mg_none_of X G z_isinstance), (PySem.W.mg_none_of X G z_bool), (PySem.W.mg_none_of X G z_int), (PySem.W.mg_none_of X G z_len), (PySem.W.mg_none_of X G z_type), (PySem.W.mg_none_of X G z_list), (PySem.W.mg_none_of X G z_all), (PySem.W.mg_none_of X G z_str), (PySem.W.mg_none_of X G z_max), (PySem.W.mg_none_of X G z_min), (PySem.W.mg_none_of X G z_range), (PySem.W.mg_none_of X G z_tuple), (PySem.W.mg_none_of X G z_zip), (PySem.W.mg_none_of X G z_repr), (PySem.W.mg_none_of X G z_enumerate), t_MOST_HEIGHT, (PySem.W.mg_of X G c_MOST_HEIGHT), t_MOST_COLUMNS, (PySem.W.mg_of X G c_MOST_COLUMNS), t_MOST_CARDS, (PySem.W.mg_of X G c_MOST_CARDS), t_MOST_DIGITS, (PySem.W.mg_of X G c_MOST_DIGITS), t_DIGITS, (PySem.W.mg_of X G c_DIGITS)⟩ : Txt K mg)⟩
end K07
open PySem PySem.W PyProof.Rows
set_option maxHeartbeats 0 in
theorem PySem.Challenge.cw_lowcolumns_k07_strings_of_cards_holds : PySem.Challenge.rw_lowcolumns_k07_strings_of_cards.Holds := by
  w_on; o_law; k_head; (case hw => w_witness2)
  k_fill
  refine Lc.walkG (l := PySem.Challenge.rw_lowcolumns_k07_strings_of_cards) (n := 63) (k := 8) (x := "script") (CX := fun _ => L2.CX0) (sp := fun w => K07.spLaw _) rfl (by decide) rfl ⟨rfl, by decide, by decide⟩ (fun w h Y => PySem.W.kIn_of Y) ?F (fun _ _ a ns hl hO hS => ⟨a, ns, rfl, Lc.scr_of hO hS, hl, fun _ => rfl⟩) (fun _ _ _ _ _ h => h)
  case F =>
    intro w mg fa h KX G hmg
    refine' K07.all_mk KX G hmg ?gLowcolumnsError ?gInvalidStartError ?gInvalidCardsError ?gInvalidFormatError ?mLowcolumnsError ?rLowcolumnsError ?xLowcolumnsError ?kLowcolumnsError ?tLowcolumnsError ?caLowcolumnsError ?cbLowcolumnsError ?ccLowcolumnsError ?ckLowcolumnsError ?ceLowcolumnsError ?chLowcolumnsError ?mInvalidStartError ?rInvalidStartError ?xInvalidStartError ?kInvalidStartError ?tInvalidStartError ?caInvalidStartError ?cbInvalidStartError ?ccInvalidStartError ?ckInvalidStartError ?ceInvalidStartError ?chInvalidStartError ?mInvalidCardsError ?rInvalidCardsError ?xInvalidCardsError ?kInvalidCardsError ?tInvalidCardsError ?caInvalidCardsError ?cbInvalidCardsError ?ccInvalidCardsError ?ckInvalidCardsError ?ceInvalidCardsError ?chInvalidCardsError ?mInvalidFormatError ?rInvalidFormatError ?xInvalidFormatError ?kInvalidFormatError ?tInvalidFormatError ?caInvalidFormatError ?cbInvalidFormatError ?ccInvalidFormatError ?ckInvalidFormatError ?ceInvalidFormatError ?chInvalidFormatError ?cf ?cg ?ndc ?a0 ?l0 ?c0 ?k0 ?a1 ?l1 ?c1 ?k1 ?a2 ?l2 ?c2 ?k2 ?a3 ?l3 ?c3 ?k3 ?a4 ?l4 ?c4 ?k4 ?a5 ?l5 ?c5 ?k5 ?a6 ?l6 ?c6 ?k6 ?a7 ?l7 ?c7 ?k7 ?a8 ?l8 ?c8 ?k8 ?a9 ?l9 ?c9 ?k9 ?a10 ?l10 ?c10 ?k10 ?a11 ?l11 ?c11 ?k11 ?a12 ?l12 ?c12 ?k12 ?a13 ?l13 ?c13 ?k13 ?a14 ?l14 ?c14 ?k14 ?a15 ?l15 ?c15 ?k15 ?a16 ?l16 ?c16 ?k16 ?z_isinstance ?z_bool ?z_int ?z_len ?z_type ?z_list ?z_all ?z_str ?z_max ?z_min ?z_range ?z_tuple ?z_zip ?z_repr ?z_enumerate ?c_MOST_HEIGHT ?c_MOST_COLUMNS ?c_MOST_CARDS ?c_MOST_DIGITS ?c_DIGITS
    (case gLowcolumnsError => k_is); (case gInvalidStartError => k_is); (case gInvalidCardsError => k_is); (case gInvalidFormatError => k_is); (case mLowcolumnsError => k_is); (case rLowcolumnsError => rfl); (case xLowcolumnsError => k_exc); (case kLowcolumnsError => k_is); (case tLowcolumnsError => k_is); (case caLowcolumnsError => k_is); (case cbLowcolumnsError => k_is); (case ccLowcolumnsError => k_is); (case ckLowcolumnsError => k_is); (case ceLowcolumnsError => k_is); (case chLowcolumnsError => k_is); (case mInvalidStartError => k_is); (case rInvalidStartError => rfl); (case xInvalidStartError => k_exc); (case kInvalidStartError => k_is); (case tInvalidStartError => k_is); (case caInvalidStartError => k_is); (case cbInvalidStartError => k_is); (case ccInvalidStartError => k_is); (case ckInvalidStartError => k_is); (case ceInvalidStartError => k_is); (case chInvalidStartError => k_is); (case mInvalidCardsError => k_is); (case rInvalidCardsError => rfl); (case xInvalidCardsError => k_exc); (case kInvalidCardsError => k_is); (case tInvalidCardsError => k_is); (case caInvalidCardsError => k_is); (case cbInvalidCardsError => k_is); (case ccInvalidCardsError => k_is); (case ckInvalidCardsError => k_is); (case ceInvalidCardsError => k_is); (case chInvalidCardsError => k_is); (case mInvalidFormatError => k_is); (case rInvalidFormatError => rfl); (case xInvalidFormatError => k_exc); (case kInvalidFormatError => k_is); (case tInvalidFormatError => k_is); (case caInvalidFormatError => k_is); (case cbInvalidFormatError => k_is); (case ccInvalidFormatError => k_is); (case ckInvalidFormatError => k_is); (case ceInvalidFormatError => k_is); (case chInvalidFormatError => k_is); (case cf => k_is); (case cg => k_is); (case ndc => decide); (case a0 => k_is); (case l0 => k_is); (case c0 => k_is); (case k0 => k_is); (case a1 => k_is); (case l1 => k_is); (case c1 => k_is); (case k1 => k_is); (case a2 => k_is); (case l2 => k_is); (case c2 => k_is); (case k2 => k_is); (case a3 => k_is); (case l3 => k_is); (case c3 => k_is); (case k3 => k_is); (case a4 => k_is); (case l4 => k_is); (case c4 => k_is); (case k4 => k_is); (case a5 => k_is); (case l5 => k_is); (case c5 => k_is); (case k5 => k_is); (case a6 => k_is); (case l6 => k_is); (case c6 => k_is); (case k6 => k_is); (case a7 => k_is); (case l7 => k_is); (case c7 => k_is); (case k7 => k_is); (case a8 => k_is); (case l8 => k_is); (case c8 => k_is); (case k8 => k_is); (case a9 => k_is); (case l9 => k_is); (case c9 => k_is); (case k9 => k_is); (case a10 => k_is); (case l10 => k_is); (case c10 => k_is); (case k10 => k_is); (case a11 => k_is); (case l11 => k_is); (case c11 => k_is); (case k11 => k_is); (case a12 => k_is); (case l12 => k_is); (case c12 => k_is); (case k12 => k_is); (case a13 => k_is); (case l13 => k_is); (case c13 => k_is); (case k13 => k_is); (case a14 => k_is); (case l14 => k_is); (case c14 => k_is); (case k14 => k_is); (case a15 => k_is); (case l15 => k_is); (case c15 => k_is); (case k15 => k_is); (case a16 => k_is); (case l16 => k_is); (case c16 => k_is); (case k16 => k_is); (case z_isinstance => k_is); (case z_bool => k_is); (case z_int => k_is); (case z_len => k_is); (case z_type => k_is); (case z_list => k_is); (case z_all => k_is); (case z_str => k_is); (case z_max => k_is); (case z_min => k_is); (case z_range => k_is); (case z_tuple => k_is); (case z_zip => k_is); (case z_repr => k_is); (case z_enumerate => k_is); (case c_MOST_HEIGHT => k_is); (case c_MOST_COLUMNS => k_is); (case c_MOST_CARDS => k_is); (case c_MOST_DIGITS => k_is); (case c_DIGITS => k_is)

