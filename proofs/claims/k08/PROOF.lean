import PyProof.Rows.All
import Wide.All
import OpenK.AllK
import Wide.FinOn
import HandS.ForMost
import HandS.Walk
import HandS.IsInst
import HandS.More
import HandS.SetFor
import HandS.Flow
import HandS.Conv
import HandS.Strs
import HandS.TupLe
import HandS.Exc
import HandS.ExcIs
import HandS.ExcField
import HandS.ExcValue
import HandS.ExcOwn
import HandS.WordsExc
import HandS.FStr
import KE.KExcIs
import PyProof.StrLaws
import PyProof.Rows.RegStrFacts
import HandS.Defaults
import HandS.HeadHook2
import HandS.Lambda
import HandS.Dict
import KE.KeyNested
import KE.KDictKeyed
import HandS.TupSets
import PySem.Challenge.RW_rotorwalk_k08_whole_rounds_of_even_webs
import KE.KStateDown
import HandS.Head0
import HandS.Head1
import HandS.Head2
import HandS.HeadEnd
import HandS.HeadHook1
import HandS.HeadHook3
import HandS.HeadHook4
import HandS.HeadWalk
set_option Elab.async false
set_option linter.all false
set_option maxRecDepth 100000
/-! Rw: the heap in two parts: what stands still (B) and the cells that may change (M); calls by their promises. -/
namespace Rw
open PySem PySem.Spec PyProof.Rows L2

/-! ### the heap in two parts -/
structure Hs (B : Hp) (M : List (Addr × HO)) (H : Hp) : Prop where
  ex : Same B H
  cel : ∀ c ∈ M, B c.1 = none ∧ H c.1 = some c.2
  nd : (M.map (·.1)).Nodup

section
variable {B B' : Hp} {M : List (Addr × HO)} {H H' : Hp} {p : Addr} {o o' : HO} {i : Nat}
theorem Hs.nil (H : Hp) : Hs H [] H := ⟨Same.refl H, fun c h => by simp at h, List.nodup_nil⟩
theorem Hs.get (S : Hs B M H) (i : Nat) (h : M[i]? = some (p, o) := by rfl) : H p = some o := (S.cel _ (List.mem_of_getElem? h)).2
theorem Hs.out (S : Hs B M H) (i : Nat) (h : M[i]? = some (p, o) := by rfl) : B p = none := (S.cel _ (List.mem_of_getElem? h)).1
theorem Hs.free (S : Hs B M H) (h : H p = none) : B p = none := S.ex.free h
theorem Hs.new (S : Hs B M H) (hp : H p = none) (o : HO) : Hs B ((p, o) :: M) (upd H p o) := by
  refine ⟨fun b u e => ?_, fun c hc => ?_, ?_⟩
  · rw [upd_ne (ne_of_none (S.ex b u e) hp)]
    exact S.ex b u e
  · rcases List.mem_cons.mp hc with e | hm
    · subst e
      exact ⟨S.free hp, upd_same⟩
    · obtain ⟨h1, h2⟩ := S.cel c hm
      exact ⟨h1, by rw [upd_ne (ne_of_none h2 hp)]; exact h2⟩
  · refine List.nodup_cons.mpr ⟨fun hm => ?_, S.nd⟩
    obtain ⟨c, hc, e⟩ := List.mem_map.mp hm
    have e : c.1 = p := e
    have h2 := (S.cel c hc).2
    rw [e, hp] at h2
    cases h2
theorem mem_set_nd {M : List (Addr × HO)} {p : Addr} {o o' : HO} {i : Nat} (nd : (M.map (·.1)).Nodup) (h : M[i]? = some (p, o)) : ∀ c ∈ M.set i (p, o'), c = (p, o') ∨ (c ∈ M ∧ c.1 ≠ p) := by
  intro c hc
  obtain ⟨j, hj, e⟩ := List.mem_iff_getElem.mp hc
  by_cases hij : i = j
  · subst hij
    rw [List.getElem_set_self] at e
    exact .inl e.symm
  · rw [List.getElem_set_ne hij] at e
    have hj' : j < M.length := by rw [List.length_set] at hj; exact hj
    refine .inr ⟨e ▸ List.getElem_mem hj', fun q => hij ?_⟩
    obtain ⟨hi, ei⟩ := List.getElem?_eq_some_iff.mp h
    have h1 : (M.map (·.1))[i]'(by rw [List.length_map]; exact hi) = p := by rw [List.getElem_map, ei]
    have h2 : (M.map (·.1))[j]'(by rw [List.length_map]; exact hj') = p := by rw [List.getElem_map, e]; exact q
    exact (List.getElem_inj nd).mp (h1.trans h2.symm)
theorem Hs.put (S : Hs B M H) (i : Nat) (o' : HO) (h : M[i]? = some (p, o) := by rfl) : Hs B (M.set i (p, o')) (upd H p o') := by
  have hB := S.out i h
  refine ⟨fun b u e => ?_, fun c hc => ?_, ?_⟩
  · rw [upd_ne (ne_of_none e hB)]
    exact S.ex b u e
  · rcases mem_set_nd S.nd h c hc with e | ⟨hm, hn⟩
    · subst e
      exact ⟨hB, upd_same⟩
    · obtain ⟨h1, h2⟩ := S.cel c hm
      exact ⟨h1, by rw [upd_ne hn]; exact h2⟩
  · have e : (M.set i (p, o')).map (·.1) = M.map (·.1) := by
      rw [List.map_set]
      refine List.ext_getElem? fun j => ?_
      by_cases hij : i = j
      · subst hij
        obtain ⟨hi, ei⟩ := List.getElem?_eq_some_iff.mp h
        rw [List.getElem?_set_self (by rw [List.length_map]; exact hi), List.getElem?_map, h]
        rfl
      · rw [List.getElem?_set_ne hij]
    rw [e]
    exact S.nd
theorem mem_erase_nd {M : List (Addr × HO)} {p : Addr} {o : HO} {i : Nat} (nd : (M.map (·.1)).Nodup) (h : M[i]? = some (p, o)) : ∀ c ∈ M.eraseIdx i, c ∈ M ∧ c.1 ≠ p := by
  intro c hc
  obtain ⟨j, hj, hij⟩ := List.mem_eraseIdx_iff_getElem?.mp hc
  have hm := List.mem_of_getElem? hij
  refine ⟨hm, fun q => hj ?_⟩
  obtain ⟨hi, ei⟩ := List.getElem?_eq_some_iff.mp h
  obtain ⟨hj', ej⟩ := List.getElem?_eq_some_iff.mp hij
  have h1 : (M.map (·.1))[i]'(by rw [List.length_map]; exact hi) = p := by rw [List.getElem_map, ei]
  have h2 : (M.map (·.1))[j]'(by rw [List.length_map]; exact hj') = p := by rw [List.getElem_map, ej]; exact q
  exact (List.getElem_inj nd).mp (h2.trans h1.symm)
theorem nodup_erase {M : List (Addr × HO)} {i : Nat} (nd : (M.map (·.1)).Nodup) : ((M.eraseIdx i).map (·.1)).Nodup :=
  nd.sublist ((List.eraseIdx_sublist M i).map _)
theorem Hs.drop (S : Hs B M H) (i : Nat) : Hs B (M.eraseIdx i) H :=
  ⟨S.ex, fun c hc => S.cel c (List.mem_of_mem_eraseIdx hc), nodup_erase S.nd⟩
/-- a cell is shut: it stands still from now on -/
theorem Hs.frz (S : Hs B M H) (i : Nat) (h : M[i]? = some (p, o) := by rfl) : Hs (upd B p o) (M.eraseIdx i) H := by
  refine ⟨fun b u e => ?_, fun c hc => ?_, nodup_erase S.nd⟩
  · by_cases hb : b = p
    · subst hb
      rw [upd_same] at e
      cases e
      exact S.get i h
    · rw [upd_ne hb] at e
      exact S.ex b u e
  · obtain ⟨hm, hn⟩ := mem_erase_nd S.nd h c hc
    exact ⟨by rw [upd_ne hn]; exact (S.cel c hm).1, (S.cel c hm).2⟩
theorem Same.upd_none (h : B p = none) : Same B (upd B p o) := fun b u e => by
  rw [upd_ne (ne_of_none e h)]
  exact e
/-- the same, with a new name for what stands -/
theorem Hs.shut (S : Hs B M H) (i : Nat) (h : M[i]? = some (p, o) := by rfl) : ∃ B', Same B B' ∧ B' p = some o ∧ Hs B' (M.eraseIdx i) H := ⟨upd B p o, Same.upd_none (S.out i h), upd_same, S.frz i h⟩
/-- a new thing that stands still at once -/
theorem Hs.still (S : Hs B M H) (hp : H p = none) (o : HO) : Hs (upd B p o) M (upd H p o) := (S.new hp o).frz 0
/-- the cells in another order, or fewer -/
theorem Hs.sub {M' : List (Addr × HO)} (S : Hs B M H) (h : ∀ c ∈ M', c ∈ M) (nd : (M'.map (·.1)).Nodup) : Hs B M' H := ⟨S.ex, fun c hc => S.cel c (h c hc), nd⟩
/-- the j-th cell comes first -/
theorem Hs.first (S : Hs B M H) (i : Nat) {c : Addr × HO} (h : M[i]? = some c := by rfl) : Hs B (c :: M.eraseIdx i) H := by
  obtain ⟨p, o⟩ := c
  refine S.sub (fun c hc => ?_) ?_
  · rcases List.mem_cons.mp hc with e | hm
    · subst e
      exact List.mem_of_getElem? h
    · exact List.mem_of_mem_eraseIdx hm
  · refine List.nodup_cons.mpr ⟨fun hm => ?_, nodup_erase S.nd⟩
    obtain ⟨c, hc, e⟩ := List.mem_map.mp hm
    exact (mem_erase_nd S.nd h c hc).2 e
/-- the still part grows by what the cells do not hold -/
theorem Hs.less {B0 : Hp} (S : Hs B M H) (e : Same B0 B) : Hs B0 M H := ⟨e.trans S.ex, fun c hc => ⟨e.free (S.cel c hc).1, (S.cel c hc).2⟩, S.nd⟩
end

/-! ### data that stands -/
section
variable {H H' : Hp}
abbrev LV (H : Hp) (p : Addr) (xs : List V) : Prop := H p = some (.lst xs)
abbrev LI (H : Hp) (p : Addr) (ns : List Int) : Prop := H p = some (.lst (ns.map V.int))
def LR (H : Hp) (as : List Addr) (rows : List (List Int)) : Prop := Paired (fun a r => LI H a r) as rows
/-- a list of lists of ints -/
def LL (H : Hp) (p : Addr) (rows : List (List Int)) : Prop := ∃ as : List Addr, H p = some (.lst (as.map V.ref)) ∧ LR H as rows
theorem LR.mono (e : Same H H') : ∀ {as : List Addr} {rows : List (List Int)}, LR H as rows → LR H' as rows
  | _, _, .nil => .nil
  | _, _, .cons r t => .cons (e _ _ r) (LR.mono e t)
theorem LL.mono (e : Same H H') {p : Addr} {rows : List (List Int)} (h : LL H p rows) : LL H' p rows := by
  obtain ⟨as, h1, h2⟩ := h
  exact ⟨as, e _ _ h1, h2.mono e⟩
theorem LR.length {as : List Addr} {rows : List (List Int)} (h : LR H as rows) : as.length = rows.length := Paired.length h
theorem LR.snoc : ∀ {as : List Addr} {rows : List (List Int)} {a : Addr} {r : List Int}, LR H as rows → LI H a r → LR H (as ++ [a]) (rows ++ [r])
  | _, _, _, _, .nil, h => .cons h .nil
  | _, _, _, _, .cons r t, h => .cons r (LR.snoc t h)
theorem LR.get : ∀ {as : List Addr} {rows : List (List Int)} {i : Nat} {r : List Int}, LR H as rows → rows[i]? = some r → ∃ a, as[i]? = some a ∧ LI H a r
  | _, _, _, _, .nil, e => by simp at e
  | _, _, 0, r, .cons h t, e => by simp at e; subst e; exact ⟨_, rfl, h⟩
  | _, _, i + 1, r, .cons h t, e => by
    obtain ⟨a, h1, h2⟩ := LR.get (i := i) t (by simpa using e)
    exact ⟨a, by simpa using h1, h2⟩
theorem LR.set : ∀ {as : List Addr} {rows : List (List Int)} {i : Nat} {a : Addr} {r : List Int}, LR H as rows → LI H a r → LR H (as.set i a) (rows.set i r)
  | _, _, _, _, _, .nil, _ => .nil
  | _, _, 0, _, _, .cons _ t, h => .cons h t
  | _, _, i + 1, _, _, .cons q t, h => .cons q (LR.set t h)
variable {K : PySem.W.Frag}
theorem sqL_of {p : Addr} {xs : List V} (h : H p = some (.lst xs)) : SqL K H p xs := .inl (.inl h)
theorem sqT_of {p : Addr} {xs : List V} (h : H p = some (.tup xs)) : SqT K H p xs := .inl (.inl h)
end

/-! ### calls by their promises -/
structure Cal (P : Program) (w : World) (K : PySem.W.Frag) (mg : Str → Option Value) (base : Heap) (x : Str) (k : Nat) (ps : List Str) (sp : Sp) : Prop where
  ex : ∃ (f : Addr) (fd : FuncData), mg x = some (.ref f) ∧ PySem.W.keepIn K (.ref f) = true ∧ Binds K fd ps [] ∧ FnOk P w K mg base CX0 k f fd ps sp ∧ ∃ (oc : Value) (od : Option Addr) (osl : Array (Option Value)), K.lookup f = some ⟨oc, od, .func fd, osl⟩
/-- where a def of the top stands -/
structure Glo (K : PySem.W.Frag) (mg : Str → Option Value) (x : Str) (st : Stmt) : Prop where
  ex : ∃ (f : Addr) (fd : FuncData), mg x = some (.ref f) ∧ Fun K x x st f fd
section
variable {P : Program} {w : World} {K : PySem.W.Frag} {mg : Str → Option Value} {base : Heap} {x : Str} {st : Stmt} {k j : Nat} {ps N : List Str} {sp : Sp}
theorem Cal.mono (C : Cal P w K mg base x j ps sp) (h : j ≤ k) : Cal P w K mg base x k ps sp := by
  obtain ⟨f, fd, h1, h2, h3, h4, h5⟩ := C.ex
  exact ⟨f, fd, h1, h2, h3, h4.mono h, h5⟩
/-- a def of the top keeps its promise -/
theorem Glo.cal (G : Glo K mg x st) (S : FnScope N ps (defScope st)) (bn : ∀ (kV doc pm : Value) (an : Option Addr) (cdv ct : Value) (us : List Value), us.length = ps.length → bindArgs (PySem.W.fnOf x x (defArgs st) (defBody st) (defScope st) .none kV doc pm an cdv ct) ⟨us, []⟩ = pure (ps.zip us))
    (len : ∀ (vs : List V) (H : Hp) (Q : VK) (E : XK), sp vs H Q E → vs.length = ps.length)
    (hbody : ∀ (f : Addr) (cdv : Value) (A : Around) (outer : List Env) (s : Shared) (H : Hp) (vs : List V) (Q : VK) (E : XK), Room k (A.deeper (envOfC x (defScope st) s.heap.objs.size f cdv)) → sp vs H Q E →
      ∃ t, PSs (cxOf CX0 P w K mg base N x (defScope st) f cdv A outer s H E).nox (defBody st) t ∧ t { nx := fun _ H' => Q .non H', rt := Q } (start N vs) H) : Cal P w K mg base x (k + 1) ps sp := by
  obtain ⟨f, fd, h1, F⟩ := G.ex
  refine ⟨f, fd, h1, F.kp, F.binds bn, F.ok S len (fun cdv A outer s H vs Q E hr h => hbody f cdv A outer s H vs Q E hr h), ?_⟩
  obtain ⟨oc, od, kV, doc, pm, an, cdv, ct, osl, _, lk, _⟩ := F.ex
  exact ⟨oc, od, osl, lk⟩
end
section
variable {X : Cx} {x : Str} {k : Nat} {ps : List Str} {sp : Sp} {e : Expr} {es : List Expr} {t : TA} {p pos : Pos}
theorem pe_cal (C : Cal X.prog X.w X.K X.mg X.base x k ps sp) (hr : Room k X.A) (hg : Gl X x) (ha : PA X (e :: es) t) (hdb : (x == ("__debug__" : Str)) = false := by decide) (he : starEach (e :: es) X.env = (false, eval e X.env) :: starEach es X.env := by rfl) (hpl : (backTo pos (starEach es X.env)).any (·.1) = false := by rfl) : PE X (.Call (.Name x p) (e :: es) [] pos) (tCall sp [] E0 t) := by
  obtain ⟨f, fd, h1, h2, h3, h4, _⟩ := C.ex
  exact pe_call h4 hr hg h1 h2 h3 .nil pass0 ha hdb he hpl
end
end Rw

namespace Rw
open PySem PySem.Spec PyProof.Rows L2
/-! ### steps of a reading -/
section
variable {K : PySem.W.Frag} {σ : L2.St} {H : Hp} {Q : VK} {v : V} {i : Nat} {ta tb tc te : TE} {r : R2} {D : Ends} {B : Hp} {M : List (Addr × HO)} {p : Addr} {xs : List V}
theorem w_var (h : σ[i]? = some (some v)) (k : Q v H) : tVar i σ H Q := ⟨v, h, k⟩
theorem w_c (k : Q v H) : tC v σ H Q := k
theorem w_op (k : ta σ H fun x H1 => tb σ H1 fun y H2 => r x y H2 Q) : tOp r ta tb σ H Q := k
theorem w_un {r : V → Hp → VK → Prop} (k : ta σ H fun x H1 => r x H1 Q) : tUn r ta σ H Q := k
theorem w_rU {g : Int → V} {i : Int} (k : Q (g i) H) : rU g (.int i) H Q := ⟨i, rfl, k⟩
theorem w_rI0 {g : Int → Int → V} {i j : Int} (k : Q (g i j) H) : rI0 g (.int i) (.int j) H Q := ⟨i, j, rfl, rfl, k⟩
theorem w_mod {i j : Int} (h : 0 < j) (k : Q (.int (i % j)) H) : rI (fun _ j => 0 < j) (fun i j => .int (i % j)) (.int i) (.int j) H Q := ⟨i, j, rfl, rfl, h, k⟩
theorem w_mul {i j : Int} (h : CMul i j) (k : Q (.int (i * j)) H) : rI CMul (fun i j => .int (i * j)) (.int i) (.int j) H Q := ⟨i, j, rfl, rfl, h, k⟩
theorem w_div {i j : Int} (h : CDiv i j) (k : Q (.int (i / j)) H) : rI CDiv (fun i j => .int (i / j)) (.int i) (.int j) H Q := ⟨i, j, rfl, rfl, h, k⟩
theorem w_seq {t u : TS} (k : t { D with nx := u D } σ H) : tSeq t u D σ H := k
theorem w_asg {g : TG} (k : te σ H fun x H1 => g x σ H1 D.nx) : tAsg te g D σ H := k
theorem w_name {v : V} {R : L2.St → Hp → Prop} (k : R (σ.set i (some v)) H) : gName i v σ H R := k
theorem w_drop (k : te σ H fun _ H1 => D.nx σ H1) : tDrop te D σ H := k
theorem w_ret (k : te σ H D.rt) : tRet te D σ H := k
theorem w_next (k : D.nx σ H) : tNext D σ H := k
theorem w_ifS {c : TT} {t u : TS} (k : c σ H fun b H1 => if b = true then t D σ H1 else u D σ H1) : tIfS c t u D σ H := k
theorem w_if {c : TT} (k : c σ H fun b H1 => if b = true then ta σ H1 Q else tb σ H1 Q) : tIf c ta tb σ H Q := k
def BlX (x : V) (H : Hp) (R : Bool → Hp → Prop) : Prop := ∃ k, x = .bl k ∧ R k H
theorem w_test {R : Bool → Hp → Prop} (k : te σ H fun x H' => BlX x H' R) : tTest te σ H R := k
theorem w_B {R : Bool → Hp → Prop} (k : te σ H fun x H' => BlX x H' R) : tB te σ H R := k
theorem w_bl {R : Bool → Hp → Prop} {b : Bool} (k : R b H) : BlX (.bl b) H R := ⟨b, rfl, k⟩
theorem w_not {t : TT} {R : Bool → Hp → Prop} (k : t σ H fun c H1 => R (!c) H1) : tNot t σ H R := k
theorem w_and {t u : TT} {R : Bool → Hp → Prop} (k : t σ H fun c H1 => if c = true then u σ H1 R else R false H1) : tAnd t u σ H R := k
theorem w_or {t u : TT} {R : Bool → Hp → Prop} (k : t σ H fun c H1 => if c = true then R true H1 else u σ H1 R) : tOr t u σ H R := k
theorem w_nil {R : List V → Hp → Prop} (k : R [] H) : tNil σ H R := k
theorem w_cons {tr : TA} {R : List V → Hp → Prop} (k : ta σ H fun x H1 => tr σ H1 fun xs H2 => R (x :: xs) H2) : tCons ta tr σ H R := k
theorem w_call {sp : Sp} {dvs : List V} {E : XK} {t : TA} (k : t σ H fun vs H1 => sp (vs ++ dvs) H1 Q E) : tCall sp dvs E t σ H Q := k
theorem w_cb {r : List V → Hp → VK → Prop} {t : TA} (k : t σ H fun vs H1 => r vs H1 Q) : tCB r t σ H Q := k
theorem w_bm0 {T : String} {r : V → List V → Hp → VK → Prop} (k : ta σ H fun x H1 => tyV K T x H1 ∧ r x [] H1 Q) : tBM0 K T r ta σ H Q := k
theorem w_bm {T : String} {r : V → List V → Hp → VK → Prop} {t : TA} (k : ta σ H fun x H1 => tyV K T x H1 ∧ t σ H1 fun xs H2 => r x xs H2 Q) : tBM K T r ta t σ H Q := k
/-- a new list, a new tuple -/
def newL (xs : List V) (H : Hp) (Q : VK) : Prop := xs.length ≤ sizeLine ∧ ∀ p, H p = none → Q (.ref p) (upd H p (.lst xs))
def newT (xs : List V) (H : Hp) (Q : VK) : Prop := xs.length ≤ sizeLine ∧ ∀ p, H p = none → Q (.ref p) (upd H p (.tup xs))
theorem w_tlst {t : TA} (k : t σ H fun xs H1 => newL xs H1 Q) : tLst t σ H Q := k
theorem w_ttup {t : TA} (k : t σ H fun xs H1 => newT xs H1 Q) : tTup t σ H Q := k
theorem w_sub {to ti : TE} {t : TSet} {v : V} {R : L2.St → Hp → Prop} (k : to σ H fun o H1 => ti σ H1 fun i H2 => t o i v H2 fun H3 => R σ H3) : gSub to ti t v σ H R := k
def ForJ (J : It) (g : TG) (tb : TS) (D : Ends) (σ : L2.St) (H : Hp) : Prop := ∃ W : Nat → Nat → L2.St → Hp → Prop, (∃ m, W 0 m σ H) ∧ ∀ i m σ H, W i m σ H →
      (J.stop i H ∧ D.nx σ H) ∨ (J.go i H ∧ ∃ N : L2.St → Hp → Prop, (∀ σ' H', N σ' H' → ∃ m', m' < m ∧ W (i + 1) m' σ' H') ∧ ∀ x H', J.yld i H x H' → g x σ H' fun σ2 H2 => tb { D with nx := N, ct := N, bk := D.nx } σ2 H2)
theorem w_for {wi : TI} {g : TG} {tb : TS} (k : wi σ H fun J H1 => ForJ J g tb D σ H1) : tFor wi g tb D σ H := k
def Rng1 (vs : List V) (H : Hp) (R : It → Hp → Prop) : Prop := ∃ j : Int, vs = [.int j] ∧ -(2 ^ 62) ≤ j ∧ j < 2 ^ 62 ∧ R (Itr 0 j.toNat) H
theorem w_rng1 {ta : TA} {R : It → Hp → Prop} (k : ta σ H fun vs H1 => Rng1 vs H1 R) : iRng1 ta σ H R := k
theorem w_rngE {j : Int} {R : It → Hp → Prop} (h0 : -(2 ^ 62) ≤ j) (h1 : j < 2 ^ 62) (k : R (Itr 0 j.toNat) H) : Rng1 [.int j] H R := ⟨j, rfl, h0, h1, k⟩
def ItL (K : PySem.W.Frag) (v : V) (H : Hp) (R : It → Hp → Prop) : Prop := ∃ a, v = .ref a ∧ (∃ xs, SqL K H a xs) ∧ R (Itl K a) H
def ItT (K : PySem.W.Frag) (v : V) (H : Hp) (R : It → Hp → Prop) : Prop := ∃ a, v = .ref a ∧ (∃ xs, SqT K H a xs) ∧ R (Itt K a) H
def ItE (K : PySem.W.Frag) (vs : List V) (H : Hp) (R : It → Hp → Prop) : Prop := ∃ a xs, vs = [.ref a] ∧ SqL K H a xs ∧ R (Ite K a) H
def ItZ (K : PySem.W.Frag) (vs : List V) (H : Hp) (R : It → Hp → Prop) : Prop := ∃ a b xs ys, vs = [.ref a, .ref b] ∧ SqL K H a xs ∧ SqL K H b ys ∧ R (Itz K a b) H
theorem w_iL {R : It → Hp → Prop} (k : ta σ H fun x H1 => ItL K x H1 R) : iList K ta σ H R := k
theorem w_iT {R : It → Hp → Prop} (k : ta σ H fun x H1 => ItT K x H1 R) : iTup K ta σ H R := k
theorem w_iE {ta : TA} {R : It → Hp → Prop} (k : ta σ H fun x H1 => ItE K x H1 R) : iEnum K ta σ H R := k
theorem w_iZ {ta : TA} {R : It → Hp → Prop} (k : ta σ H fun x H1 => ItZ K x H1 R) : iZip K ta σ H R := k
theorem w_iLE {R : It → Hp → Prop} (h : SqL K H p xs) (k : R (Itl K p) H) : ItL K (.ref p) H R := ⟨p, rfl, ⟨_, h⟩, k⟩
theorem w_iTE {R : It → Hp → Prop} (h : SqT K H p xs) (k : R (Itt K p) H) : ItT K (.ref p) H R := ⟨p, rfl, ⟨_, h⟩, k⟩
theorem w_iEE {R : It → Hp → Prop} (h : SqL K H p xs) (k : R (Ite K p) H) : ItE K [.ref p] H R := ⟨p, _, rfl, h, k⟩
theorem w_iZE {q : Addr} {ys : List V} {R : It → Hp → Prop} (h : SqL K H p xs) (h2 : SqL K H q ys) (k : R (Itz K p q) H) : ItZ K [.ref p, .ref q] H R := ⟨p, q, _, _, rfl, h, h2, k⟩
/-- a comprehension -/
def LcJ (J : It) (g : TG) (tt : TT) (te : TE) (vs : List Nat) (σ : L2.St) (H : Hp) (Q : VK) : Prop := ∀ D, H D = none → ∃ W : Nat → Nat → Hp → Prop, (∃ m, W 0 m (upd H D (.lst []))) ∧ ∀ i m H, W i m H →
  (J.stop i H ∧ Q (.ref D) H) ∨
  (J.go i H ∧ ∃ on : Hp → Prop, (∀ H', on H' → ∃ m', m' < m ∧ W (i + 1) m' H') ∧ ∀ x H', J.yld i H x H' →
    g x (wipe σ vs) H' fun s2 H2 => wipe s2 vs = wipe σ vs ∧ tt s2 H2 fun b H3 =>
      if b = true then te s2 H3 fun y H4 => ∃ made, H4 D = some (.lst made) ∧ made.length < sizeLine ∧ on (upd H4 D (.lst (made ++ [y]))) else on H3)
theorem w_lc {wi : TI} {g : TG} {tt : TT} {vs : List Nat} (k : wi σ H fun J H1 => LcJ J g tt te vs σ H1 Q) : tLc wi g tt te vs σ H Q := k
theorem w_yes {R : Bool → Hp → Prop} (k : R true H) : tYes σ H R := k
/-- a pair's parts to their names -/
theorem w_gtup {n : Nat} {t : TGs} {R : L2.St → Hp → Prop} (h : SqT K H p xs) (hn : xs.length = n) (k : t xs σ H R) : gTup K n t (.ref p) σ H R := ⟨p, xs, rfl, h, hn, k⟩
theorem w_gcons {t : TG} {u : TGs} {x : V} {R : L2.St → Hp → Prop} (k : t x σ H fun σ' H' => u xs σ' H' R) : gCons t u (x :: xs) σ H R := ⟨x, xs, rfl, k⟩
theorem w_gnil {R : L2.St → Hp → Prop} (k : R σ H) : gNil [] σ H R := ⟨rfl, k⟩
theorem w_lst (S : Hs B M H) (hl : xs.length ≤ sizeLine) (k : ∀ p H', Hs B ((p, .lst xs) :: M) H' → Q (.ref p) H') : newL xs H Q := ⟨hl, fun p hp => k p _ (S.new hp _)⟩
theorem w_tup (S : Hs B M H) (hl : xs.length ≤ sizeLine) (k : ∀ p H', Hs B ((p, .tup xs) :: M) H' → Q (.ref p) H') : newT xs H Q := ⟨hl, fun p hp => k p _ (S.new hp _)⟩
/-- an item of a list -/
theorem w_ixL {j : Int} (h : SqL K H p xs) (ha : atI xs j = some v) (k : Q v H) : rIxL K (.ref p) (.int j) H Q := ⟨p, xs, j, v, rfl, rfl, h, ha, k⟩
theorem w_ixT {j : Int} (h : SqT K H p xs) (ha : atI xs j = some v) (k : Q v H) : rIxT K (.ref p) (.int j) H Q := ⟨p, xs, j, v, rfl, rfl, h, ha, k⟩
theorem tyL (h : SqL K H p xs) : tyV K "list" (.ref p) H := .inl ⟨rfl, _, h⟩
/-- append to a cell -/
theorem w_append {y : V} (S : Hs B M H) (i : Nat) (h : M[i]? = some (p, .lst xs)) (hl : xs.length < sizeLine) (k : ∀ H', Hs B (M.set i (p, .lst (xs ++ [y]))) H' → Q .non H') : rAppend (.ref p) [y] H Q :=
  ⟨p, xs, y, rfl, rfl, S.get i h, hl, k _ (S.put i _ h)⟩
/-- an item's store -/
theorem w_setL {j : Int} {n : Nat} {R : Hp → Prop} (S : Hs B M H) (i : Nat) (h : M[i]? = some (p, .lst xs)) (hj : ixN xs.length j = some n) (k : ∀ H', Hs B (M.set i (p, .lst (xs.set n v))) H' → R H') : rSetL (.ref p) (.int j) v H R :=
  ⟨p, xs, j, n, rfl, rfl, S.get i h, hj, k _ (S.put i _ h)⟩
/-- len -/
def rLenX (K : PySem.W.Frag) : List V → Hp → VK → Prop := fun xs H Q => ∃ x n, xs = [x] ∧ LenV K x H n ∧ Q (.int (n : Nat)) H
theorem w_len {xs : List V} (h : SqL K H p xs) (k : Q (.int (xs.length : Nat)) H) : rLenX K [.ref p] H Q := ⟨_, _, rfl, .inl ⟨_, h, rfl⟩, k⟩
theorem w_lenT {xs : List V} (h : SqT K H p xs) (k : Q (.int (xs.length : Nat)) H) : rLenX K [.ref p] H Q := ⟨_, _, rfl, .inr ⟨_, h, rfl⟩, k⟩
/-- list(..), tuple(..) -/
def rListX (K : PySem.W.Frag) : List V → Hp → VK → Prop := fun xs H Q => ∃ p ys, xs = [.ref p] ∧ (SqL K H p ys ∨ SqT K H p ys) ∧ ∀ l, H l = none → Q (.ref l) (upd H l (.lst ys))
theorem w_listL (S : Hs B M H) (h : SqL K H p xs) (k : ∀ q H', Hs B ((q, .lst xs) :: M) H' → Q (.ref q) H') : rListX K [.ref p] H Q := ⟨p, xs, rfl, .inl h, fun l hl => k l _ (S.new hl _)⟩
theorem w_listT (S : Hs B M H) (h : SqT K H p xs) (k : ∀ q H', Hs B ((q, .lst xs) :: M) H' → Q (.ref q) H') : rListX K [.ref p] H Q := ⟨p, xs, rfl, .inr h, fun l hl => k l _ (S.new hl _)⟩
def rTupX (K : PySem.W.Frag) : List V → Hp → VK → Prop := fun xs H Q => ∃ p ys, xs = [.ref p] ∧ ((SqL K H p ys ∧ ∀ l, H l = none → Q (.ref l) (upd H l (.tup ys))) ∨ (SqT K H p ys ∧ Q (.ref p) H))
theorem w_tupL (S : Hs B M H) (h : SqL K H p xs) (k : ∀ q H', Hs B ((q, .tup xs) :: M) H' → Q (.ref q) H') : rTupX K [.ref p] H Q := ⟨p, xs, rfl, .inl ⟨h, fun l hl => k l _ (S.new hl _)⟩⟩
def rMax2X : List V → Hp → VK → Prop := fun xs H Q => ∃ i j, xs = [.int i, .int j] ∧ Q (.int (if j > i then j else i)) H
theorem w_max2 {i j : Int} (k : Q (.int (if j > i then j else i)) H) : rMax2X [.int i, .int j] H Q := ⟨i, j, rfl, k⟩
/-- all, any, sum of what stands in a list -/
theorem w_all {bs : List Bool} (h : SqL K H p (bs.map V.bl)) (k : Q (.bl (bs.all id)) H) : rAll K [.ref p] H Q := ⟨p, bs, rfl, h, k⟩
theorem w_sum {ns : List Int} (h : SqL K H p (ns.map V.int)) (k : Q (.int ns.sum) H) : rSum K [.ref p] H Q := ⟨p, ns, rfl, h, k⟩
/-- x in xs -/
theorem w_inL {neg : Bool} {x : V} (h : SqL K H p xs) (hx : flatV x = true) (ha : xs.all flatV = true) (k : Q (.bl (if neg then !inV x xs else inV x xs)) H) : rIn K neg x (.ref p) H Q := ⟨p, xs, rfl, .inl h, hx, ha, k⟩
theorem w_inT {neg : Bool} {x : V} (h : SqT K H p xs) (hx : flatV x = true) (ha : xs.all flatV = true) (k : Q (.bl (if neg then !inV x xs else inV x xs)) H) : rIn K neg x (.ref p) H Q := ⟨p, xs, rfl, .inr h, hx, ha, k⟩
/-- == -/
theorem w_eqS {x y : V} (h : scal x y = true) (k : Q (.bl (decide (x = y))) H) : rEq x y H Q := ⟨h, k⟩
theorem w_neS {x y : V} (h : scal x y = true) (k : Q (.bl (!decide (x = y))) H) : rNe x y H Q := ⟨h, k⟩
theorem w_eqD {x y : V} {d e : PyData} (hd : Dp K H x d) (he : Dp K H y e) (sd : SeqAt.shaped d = true) (se : SeqAt.shaped e = true) (k : Q (.bl (PyData.eqv d e)) H) : rEqD K x y H Q := ⟨d, e, hd, he, sd, se, k⟩
theorem w_neD {x y : V} {d e : PyData} (hd : Dp K H x d) (he : Dp K H y e) (sd : SeqAt.shaped d = true) (se : SeqAt.shaped e = true) (k : Q (.bl (!PyData.eqv d e)) H) : rNeD K x y H Q := ⟨d, e, hd, he, sd, se, k⟩
/-- xs + ys, xs * n, xs[a:b] -/
theorem w_cat {q : Addr} {ys : List V} (S : Hs B M H) (h : H p = some (.lst xs)) (h2 : H q = some (.lst ys)) (hl : xs.length + ys.length ≤ sizeLine) (k : ∀ z H', Hs B ((z, .lst (xs ++ ys)) :: M) H' → Q (.ref z) H') : rCat (.ref p) (.ref q) H Q :=
  ⟨p, q, xs, ys, rfl, rfl, h, h2, hl, fun z hz => k z _ (S.new hz _)⟩
theorem w_rep {n : Int} (S : Hs B M H) (h : H p = some (.lst xs)) (h0 : -(2 ^ 63) ≤ n) (h1 : n < 2 ^ 63) (hl : xs.length * n.toNat ≤ sizeLine) (k : ∀ z H', Hs B ((z, .lst (List.replicate n.toNat xs).flatten) :: M) H' → Q (.ref z) H') : rRep (.ref p) (.int n) H Q :=
  ⟨p, n, xs, rfl, rfl, h, h0, h1, hl, fun z hz => k z _ (S.new hz _)⟩
theorem w_slice {lo hi : Option Int} (S : Hs B M H) (h : SqL K H p xs) (k : ∀ z H', Hs B ((z, .lst (cutV xs lo hi)) :: M) H' → Q (.ref z) H') : rSlL K (.ref p) lo hi H Q := ⟨p, xs, rfl, h, fun z hz => k z _ (S.new hz _)⟩
theorem w_sl {r : V → Option Int → Option Int → Hp → VK → Prop} {tl th : TO} (k : te σ H fun x H1 => tl σ H1 fun l H2 => th σ H2 fun u H3 => r x l u H3 Q) : tSl r te tl th σ H Q := k
def PartI (v : V) (H : Hp) (R : Option Int → Hp → Prop) : Prop := ∃ i, v = .int i ∧ R (some i) H
theorem w_part {R : Option Int → Hp → Prop} (k : te σ H fun x H1 => PartI x H1 R) : tPart te σ H R := k
theorem w_partI {i : Int} {R : Option Int → Hp → Prop} (k : R (some i) H) : PartI (.int i) H R := ⟨i, rfl, k⟩
theorem w_nopart {R : Option Int → Hp → Prop} (k : R none H) : tNoPart σ H R := k
/-- methods of a cell that is a list -/
theorem w_pop {y : V} (S : Hs B M H) (i : Nat) (h : M[i]? = some (p, .lst xs)) (hy : xs[xs.length - 1]? = some y) (k : ∀ H', Hs B (M.set i (p, .lst xs.dropLast)) H' → Q y H') : rPop (.ref p) [] H Q := ⟨p, xs, y, rfl, rfl, S.get i h, hy, k _ (S.put i _ h)⟩
theorem w_popAt {y : V} {j : Int} {n : Nat} (S : Hs B M H) (i : Nat) (h : M[i]? = some (p, .lst xs)) (h0 : -(2 ^ 63) ≤ j) (h1 : j < 2 ^ 63) (hn : seqIndex? j xs.length = some n) (hy : xs[n]? = some y) (k : ∀ H', Hs B (M.set i (p, .lst (xs.eraseIdx n))) H' → Q y H') : rPopAt (.ref p) [.int j] H Q :=
  ⟨p, xs, j, n, y, rfl, rfl, S.get i h, h0, h1, hn, hy, k _ (S.put i _ h)⟩
theorem w_clear (S : Hs B M H) (i : Nat) (h : M[i]? = some (p, .lst xs)) (k : ∀ H', Hs B (M.set i (p, .lst [])) H' → Q .non H') : rClear (.ref p) [] H Q := ⟨p, xs, rfl, rfl, S.get i h, k _ (S.put i _ h)⟩
def rInsX : V → List V → Hp → VK → Prop := fun x vs H Q => ∃ (l : Addr) (xs : List V) (i : Int) (y : V), x = .ref l ∧ vs = [.int i, y] ∧ H l = some (.lst xs) ∧ xs.length < sizeLine ∧ 0 ≤ i ∧ i < 2 ^ 63 ∧ Q .non (upd H l (.lst (xs.take i.toNat ++ [y] ++ xs.drop i.toNat)))
theorem w_insert {y : V} {j : Int} (S : Hs B M H) (i : Nat) (h : M[i]? = some (p, .lst xs)) (hl : xs.length < sizeLine) (h0 : 0 ≤ j) (h1 : j < 2 ^ 63) (k : ∀ H', Hs B (M.set i (p, .lst (xs.take j.toNat ++ [y] ++ xs.drop j.toNat))) H' → Q .non H') : rInsX (.ref p) [.int j, y] H Q :=
  ⟨p, xs, j, y, rfl, rfl, S.get i h, hl, h0, h1, k _ (S.put i _ h)⟩
theorem w_lcount {ns : List Int} {j : Int} (h : SqL K H p (ns.map V.int)) (k : Q (.int (ns.count j : Nat)) H) : rCntI K (.ref p) [.int j] H Q := ⟨p, ns, j, rfl, rfl, h, k⟩
/-- type(x) is T -/
theorem w_typ {x : V} {T : String} (h : TyB K H x T) (k : Q (.ty T) H) : rTyp K [x] H Q := ⟨x, T, rfl, h, k⟩
def rIsTX : R2 := fun x y H Q => ∃ a b, x = .ty a ∧ y = .ty b ∧ Q (.bl (decide (a = b))) H
theorem w_isT {a b : String} (k : Q (.bl (decide (a = b))) H) : rIsTX (.ty a) (.ty b) H Q := ⟨a, b, rfl, rfl, k⟩
theorem w_notT {a b : String} (k : Q (.bl (!decide (a = b))) H) : rNT (.ty a) (.ty b) H Q := ⟨a, b, rfl, rfl, k⟩
def rIsBX : R2 := fun x y H Q => ∃ a b, x = .bl a ∧ y = .bl b ∧ Q (.bl (decide (a = b))) H
def rNotBX : R2 := fun x y H Q => ∃ a b, x = .bl a ∧ y = .bl b ∧ Q (.bl (!decide (a = b))) H
theorem w_isB {a b : Bool} (k : Q (.bl (decide (a = b))) H) : rIsBX (.bl a) (.bl b) H Q := ⟨a, b, rfl, rfl, k⟩
theorem w_notB {a b : Bool} (k : Q (.bl (!decide (a = b))) H) : rNotBX (.bl a) (.bl b) H Q := ⟨a, b, rfl, rfl, k⟩
def rIsNX : R2 := fun x y H Q => y = .non ∧ Q (.bl (decide (x = .non))) H
def rNotNX : R2 := fun x y H Q => y = .non ∧ Q (.bl (!decide (x = .non))) H
theorem w_isN {x : V} (k : Q (.bl (decide (x = .non))) H) : rIsNX x .non H Q := ⟨rfl, k⟩
theorem w_notN {x : V} (k : Q (.bl (!decide (x = .non))) H) : rNotNX x .non H Q := ⟨rfl, k⟩
/-- isinstance -/
theorem w_isi {x c : V} {t u : Value} {b : Bool} (hc : ClsV c u) (ht : TyX K H x t) (e : PySem.W.kitOne K t u = some b) (k : Q (.bl b) H) : rIsi K [x, c] H Q := ⟨x, c, t, u, b, rfl, hc, ht, e, k⟩
/-- a field -/
def FldX (K : PySem.W.Frag) (x : V) (f : Str) (H : Hp) (Q : VK) : Prop := ∃ a C dx fs v, x = .ref a ∧ H a = some (.ins C dx fs) ∧ Cls K C ∧ NoAttr K C f ∧ fs.lookup f = some v ∧ Q v H
theorem w_fld {f : Str} (k : ta σ H fun x H1 => FldX K x f H1 Q) : tFld K ta f σ H Q := k
theorem w_fldE {C dx : Addr} {fs : List (Str × V)} {f : Str} (h : H p = some (.ins C dx fs)) (c : Cls K C) (n : NoAttr K C f) (hv : fs.lookup f = some v) (k : Q v H) : FldX K (.ref p) f H Q := ⟨p, C, dx, fs, v, rfl, h, c, n, hv, k⟩
theorem w_par {i j : Nat} {ta : TA} {R : List V → Hp → Prop} (k : ta σ H fun vs H1 => ∃ v w, vs = [v, w] ∧ D.nx ((σ.set i (some v)).set j (some w)) H1) : tPar i j ta D σ H := k
theorem w_parE {i j : Nat} {v w : V} (k : D.nx ((σ.set i (some v)).set j (some w)) H) : ∃ v' w', [v, w] = [v', w'] ∧ D.nx ((σ.set i (some v')).set j (some w')) H := ⟨v, w, rfl, k⟩
def ChainX (r r' : R2) (x y : V) (tc : TE) (σ : L2.St) (H : Hp) (Q : VK) : Prop := r x y H fun z H3 => ∃ k, z = .bl k ∧ if k = true then tc σ H3 fun u H4 => r' y u H4 Q else Q (.bl false) H3
end
section
variable {X : Cx}
theorem call_lenX : CallR X (.builtin "len") (rLenX X.K) := call_len
theorem call_listX : CallR X (.type "list") (rListX X.K) := call_list_of
theorem call_tupX : CallR X (.type "tuple") (rTupX X.K) := call_tuple_of
theorem call_max2X (hc : X.calm = true) : CallR X (.builtin "max") rMax2X := call_max2 hc
theorem mt_insX : MtR X "list.insert" rInsX := mt_insert
theorem op_isTX : OpR X (compareOp .Is) rIsTX := op_isTyB
theorem op_isBX : OpR X (compareOp .Is) rIsBX := op_is_bl
theorem op_notBX : OpR X (compareOp .IsNot) rNotBX := op_isnot_bl
theorem op_isNX : OpR X (compareOp .Is) rIsNX := op_isN
theorem op_notNX : OpR X (compareOp .IsNot) rNotNX := op_notN
end
theorem len_ok {α : Type} {xs : List α} (h : xs.length ≤ 1000) : xs.length ≤ sizeLine := by
  have := sizeLine_eq
  omega
theorem len_lt {α : Type} {xs : List α} (h : xs.length ≤ 1000) : xs.length < sizeLine := by
  have := sizeLine_eq
  omega
theorem small {n m : Nat} (h : n ≤ m) (hm : m < 16777216 := by decide) : n < sizeLine := by
  have := sizeLine_eq
  omega
theorem small' {n m : Nat} (h : n ≤ m) (hm : m ≤ 16777216 := by decide) : n ≤ sizeLine := by
  have := sizeLine_eq
  omega
end Rw

namespace Rw
open PySem PySem.Spec PyProof.Rows L2
section
variable {K : PySem.W.Frag} {σ : L2.St} {H : Hp} {Q : VK} {D : Ends} {g : TG} {tb : TS} {a b : Addr} {xs ys : List V} {tt : TT} {te : TE} {vs : List Nat}
/-- for i in range(n) -/
theorem for_rng {n : Nat} (Pv : Nat → L2.St → Hp → Prop) (h0 : Pv 0 σ H)
    (hs : ∀ (i : Nat) (σ : L2.St) (H : Hp), i < n → Pv i σ H → g (.int (i : Int)) σ H fun σ2 H2 => tb { D with nx := Pv (i + 1), ct := Pv (i + 1), bk := D.nx } σ2 H2) (hd : ∀ σ H, Pv n σ H → D.nx σ H) : ForJ (Itr 0 n) g tb D σ H :=
  for_range (lo := 0) Pv h0 (fun i σ H hi h => by rw [Int.zero_add]; exact hs i σ H hi h) hd
theorem for_lst (Pv : Nat → L2.St → Hp → Prop) (h0 : Pv 0 σ H) (hl : ∀ i σ H, i ≤ xs.length → Pv i σ H → SqL K H a xs)
    (hs : ∀ (i : Nat) (x : V) (σ : L2.St) (H : Hp), xs[i]? = some x → Pv i σ H → g x σ H fun σ2 H2 => tb { D with nx := Pv (i + 1), ct := Pv (i + 1), bk := D.nx } σ2 H2) (hd : ∀ σ H, Pv xs.length σ H → D.nx σ H) : ForJ (Itl K a) g tb D σ H := for_list Pv h0 hl hs hd
theorem for_tpl (Pv : Nat → L2.St → Hp → Prop) (h0 : Pv 0 σ H) (hl : ∀ i σ H, i ≤ xs.length → Pv i σ H → SqT K H a xs)
    (hs : ∀ (i : Nat) (x : V) (σ : L2.St) (H : Hp), xs[i]? = some x → Pv i σ H → g x σ H fun σ2 H2 => tb { D with nx := Pv (i + 1), ct := Pv (i + 1), bk := D.nx } σ2 H2) (hd : ∀ σ H, Pv xs.length σ H → D.nx σ H) : ForJ (Itt K a) g tb D σ H := for_tup Pv h0 hl hs hd
/-- for i, x in enumerate(xs) -/
theorem for_enu (Pv : Nat → L2.St → Hp → Prop) (h0 : Pv 0 σ H) (hl : ∀ i σ H, i ≤ xs.length → Pv i σ H → SqL K H a xs)
    (hs : ∀ (i : Nat) (x : V) (σ : L2.St) (H : Hp) (T : Addr), xs[i]? = some x → Pv i σ H → H T = none → g (.ref T) σ (upd H T (.tup [.int (i : Int), x])) fun σ2 H2 => tb { D with nx := Pv (i + 1), ct := Pv (i + 1), bk := D.nx } σ2 H2) (hd : ∀ σ H, Pv xs.length σ H → D.nx σ H) : ForJ (Ite K a) g tb D σ H :=
  for_it walk_enum Pv h0 hl (fun i x σ H H' hi h y => by
    obtain ⟨T, u, z, rfl, h2, rfl, e1, e2⟩ := y
    cases e1
    exact hs i z σ H T e2 h h2) hd
end
end Rw

namespace Rw
open PySem PySem.Spec PyProof.Rows L2
section
variable {K : PySem.W.Frag} {σ : L2.St} {H : Hp} {Q : VK} {D : Ends} {B : Hp} {M : List (Addr × HO)} {p : Addr} {xs : List V} {ta tb tc te : TE} {v : V} {r r' : R2}
theorem iteP {c A Z : Prop} [Decidable c] (hc : c) (h : A) : if decide c = true then A else Z := by rw [decide_eq_true hc]; exact iteT h
theorem iteN {c A Z : Prop} [Decidable c] (hc : ¬ c) (h : Z) : if decide c = true then A else Z := by rw [decide_eq_false hc]; exact iteF h
theorem ite3 {c A Z : Prop} [Decidable c] (h1 : c → A) (h2 : ¬ c → Z) : if decide c = true then A else Z := by
  by_cases h : c
  · exact iteP h (h1 h)
  · exact iteN h (h2 h)
/-- and, or, not as values -/
def AndX (x : V) (tb : TE) (σ : L2.St) (H : Hp) (Q : VK) : Prop := ∃ c, x = .bl c ∧ if c = true then tb σ H Q else Q (.bl false) H
def OrX (x : V) (tb : TE) (σ : L2.St) (H : Hp) (Q : VK) : Prop := ∃ c, x = .bl c ∧ if c = true then Q (.bl true) H else tb σ H Q
theorem w_andV (k : ta σ H fun x H1 => AndX x tb σ H1 Q) : tAndV ta tb σ H Q := k
theorem w_orV (k : ta σ H fun x H1 => OrX x tb σ H1 Q) : tOrV ta tb σ H Q := k
theorem w_andE {c : Bool} (k : if c = true then tb σ H Q else Q (.bl false) H) : AndX (.bl c) tb σ H Q := ⟨c, rfl, k⟩
theorem w_orE {c : Bool} (k : if c = true then Q (.bl true) H else tb σ H Q) : OrX (.bl c) tb σ H Q := ⟨c, rfl, k⟩
def NotX (x : V) (H : Hp) (Q : VK) : Prop := ∃ c, x = .bl c ∧ Q (.bl (!c)) H
theorem w_notV (k : ta σ H fun x H1 => NotX x H1 Q) : tNotV ta σ H Q := k
theorem w_notE {c : Bool} (k : Q (.bl (!c)) H) : NotX (.bl c) H Q := ⟨c, rfl, k⟩
/-- a < b < c -/
theorem w_chain (k : ta σ H fun x H1 => tb σ H1 fun y H2 => ChainX r r' x y tc σ H2 Q) : tChain r r' ta tb tc σ H Q := k
theorem w_chainI {f : Int → Int → Bool} {i j : Int} (k : if f i j = true then tc σ H (fun u H4 => r' (.int j) u H4 Q) else Q (.bl false) H) : ChainX (rI0 fun i j => .bl (f i j)) r' (.int i) (.int j) tc σ H Q := ⟨i, j, rfl, rfl, f i j, rfl, k⟩
/-- a method's call, a class's -/
def MethX (C : Addr) (m : Str) (sp : Sp) (x : V) (t : TA) (σ : L2.St) (H : Hp) (Q : VK) : Prop := ∃ a dx fs, x = .ref a ∧ H a = some (.ins C dx fs) ∧ fs.lookup m = none ∧ t σ H fun vs H2 => sp (x :: (vs ++ [])) H2 Q E0
theorem w_meth {C : Addr} {m : Str} {sp : Sp} {t : TA} (k : ta σ H fun x H1 => MethX C m sp x t σ H1 Q) : tMeth C m sp [] E0 ta t σ H Q := k
theorem w_methE {C dx : Addr} {m : Str} {sp : Sp} {t : TA} {fs : List (Str × V)} (h : H p = some (.ins C dx fs)) (hm : fs.lookup m = none) (k : t σ H fun vs H2 => sp (.ref p :: (vs ++ [])) H2 Q E0) : MethX C m sp (.ref p) t σ H Q := ⟨p, dx, fs, rfl, h, hm, k⟩
def MakeX (C : Addr) (sp : Sp) (vs : List V) (H : Hp) (Q : VK) : Prop := ∀ x dx, H x = none → H dx = none → dx ≠ x → sp (.ref x :: (vs ++ [])) (upd (upd H dx (.own x)) x (.ins C dx [])) (fun v H2 => v = .non ∧ Q (.ref x) H2) E0
theorem w_make {C : Addr} {sp : Sp} {t : TA} (k : t σ H fun vs H1 => MakeX C sp vs H1 Q) : tMake C sp [] E0 t σ H Q := k
theorem w_makeE {C : Addr} {sp : Sp} {vs : List V} (S : Hs B M H) (k : ∀ x dx H', Hs B ((x, .ins C dx []) :: (dx, .own x) :: M) H' → sp (.ref x :: (vs ++ [])) H' (fun v H2 => v = .non ∧ Q (.ref x) H2) E0) : MakeX C sp vs H Q := fun x dx hx hd ne =>
  k x dx _ ((S.new hd (.own x)).new (by rw [upd_ne ne.symm]; exact hx) _)
/-- a field's store -/
def SFldX (K : PySem.W.Frag) (y x : V) (f : Str) (D : Ends) (σ : L2.St) (H : Hp) : Prop := ∃ a C dx fs, x = .ref a ∧ H a = some (.ins C dx fs) ∧ Cls K C ∧ NoAttr K C f ∧ fs.length < 1000 ∧ D.nx σ (upd H a (.ins C dx (putF f y fs)))
theorem w_sfld {f : Str} {tv : TE} (k : tv σ H fun y H1 => ta σ H1 fun x H2 => SFldX K y x f D σ H2) : sFld K ta tv f D σ H := k
theorem w_sfldE {C dx : Addr} {f : Str} {y : V} {fs : List (Str × V)} (S : Hs B M H) (i : Nat) (h : M[i]? = some (p, .ins C dx fs)) (c : Cls K C) (n : NoAttr K C f) (hl : fs.length < 1000) (k : ∀ H', Hs B (M.set i (p, .ins C dx (putF f y fs))) H' → D.nx σ H') : SFldX K y (.ref p) f D σ H :=
  ⟨p, C, dx, fs, rfl, S.get i h, c, n, hl, k _ (S.put i _ h)⟩
/-- x and y by truth -/
theorem w_iteB {b : Bool} {A Z : Prop} (h1 : b = true → A) (h2 : b = false → Z) : if b = true then A else Z := by
  cases b with
  | true => exact iteT (h1 rfl)
  | false => exact iteF (h2 rfl)
/-! ### comprehensions: the list is made in a cell, what it holds stands in B -/
/-- behind a turn: an item more, none more -/
def LcP (B : Hp) (M : List (Addr × HO)) (Pv : Nat → Hp → List V → Prop) (i : Nat) (E : Addr) (y : V) (H4 : Hp) : Prop := ∃ acc, H4 E = some (.lst acc) ∧ acc.length < sizeLine ∧ ∃ B' acc', Same B B' ∧ acc'.length ≤ i ∧ Hs B' ((E, .lst acc') :: M) (upd H4 E (.lst (acc ++ [y]))) ∧ Pv i B' acc'
def LcN (B : Hp) (M : List (Addr × HO)) (Pv : Nat → Hp → List V → Prop) (i : Nat) (E : Addr) (H3 : Hp) : Prop := ∃ B' acc', Same B B' ∧ acc'.length ≤ i ∧ Hs B' ((E, .lst acc') :: M) H3 ∧ Pv i B' acc'
theorem lcp {Pv : Nat → Hp → List V → Prop} {i : Nat} {E : Addr} {y : V} {acc : List V} {B4 : Hp} (S4 : Hs B4 ((E, .lst acc) :: M) H) (e : Same B B4) (hl : acc.length ≤ i) (hi : i < 1000) (pv : Pv (i + 1) B4 (acc ++ [y])) : LcP B M Pv (i + 1) E y H :=
  ⟨acc, S4.get 0, len_lt (by omega), B4, acc ++ [y], e, by simp; omega, S4.put 0 _, pv⟩
theorem lcn {Pv : Nat → Hp → List V → Prop} {i : Nat} {E : Addr} {acc : List V} {B4 : Hp} (S4 : Hs B4 ((E, .lst acc) :: M) H) (e : Same B B4) (hl : acc.length ≤ i) (pv : Pv (i + 1) B4 acc) : LcN B M Pv (i + 1) E H :=
  ⟨B4, acc, e, by omega, S4, pv⟩
theorem lc_by {J : It} {n : Nat} {G : Hp → Prop} {Y : Nat → Hp → V → Hp → Prop} {g : TG} {tt : TT} {vs : List Nat} (W : Walk J n G Y) (S : Hs B M H) (Pv : Nat → Hp → List V → Prop) (h0 : Pv 0 B [])
    (hG : ∀ B' H', Same B B' → Hs B' M H' → G H')
    (hs : ∀ (i : Nat) (x : V) (E : Addr) (B' : Hp) (acc : List V) (H' H'' : Hp), i < n → acc.length ≤ i → Same B B' → Hs B' ((E, .lst acc) :: M) H' → Pv i B' acc → Y i H' x H'' → g x (wipe σ vs) H'' fun σ2 H2 => wipe σ2 vs = wipe σ vs ∧ tt σ2 H2 fun b H3 =>
      if b = true then te σ2 H3 fun y H4 => LcP B M Pv (i + 1) E y H4 else LcN B M Pv (i + 1) E H3)
    (hd : ∀ (E : Addr) (B' : Hp) (acc : List V) (H' : Hp), Same B B' → Hs B' ((E, .lst acc) :: M) H' → acc.length ≤ n → Pv n B' acc → Q (.ref E) H') : LcJ J g tt te vs σ H Q := by
  intro E hE
  refine lc_it W (fun i H' => ∃ B' acc, Same B B' ∧ acc.length ≤ i ∧ Hs B' ((E, .lst acc) :: M) H' ∧ Pv i B' acc) ⟨B, [], Same.refl B, Nat.le_refl _, S.new hE _, h0⟩ (fun i H' _ ⟨B', acc, e, _, S', _⟩ => hG B' H' e (S'.drop 0)) ?_ ?_
  · rintro i x H' H'' hi ⟨B', acc, e, hl, S', pv⟩ y
    exact hs i x E B' acc H' H'' hi hl e S' pv y
  · rintro H' ⟨B', acc, e, hl, S', pv⟩
    exact hd E B' acc H' e S' hl pv
/-- over a list, a tuple that stands in B; over a range -/
theorem lc_L {a : Addr} {ys : List V} {g : TG} {tt : TT} {vs : List Nat} (S : Hs B M H) (hx : B a = some (.lst ys)) (Pv : Nat → Hp → List V → Prop) (h0 : Pv 0 B [])
    (hs : ∀ (i : Nat) (x : V) (E : Addr) (B' : Hp) (acc : List V) (H' : Hp), ys[i]? = some x → acc.length ≤ i → Same B B' → Hs B' ((E, .lst acc) :: M) H' → Pv i B' acc → g x (wipe σ vs) H' fun σ2 H2 => wipe σ2 vs = wipe σ vs ∧ tt σ2 H2 fun b H3 =>
      if b = true then te σ2 H3 fun y H4 => LcP B M Pv (i + 1) E y H4 else LcN B M Pv (i + 1) E H3)
    (hd : ∀ (E : Addr) (B' : Hp) (acc : List V) (H' : Hp), Same B B' → Hs B' ((E, .lst acc) :: M) H' → acc.length ≤ ys.length → Pv ys.length B' acc → Q (.ref E) H') : LcJ (Itl K a) g tt te vs σ H Q :=
  lc_by (walk_list (K := K) (a := a) (xs := ys)) S Pv h0 (fun B' H' e S' => sqL_of (S'.ex _ _ (e _ _ hx))) (fun i x E B' acc H' H'' _ hl e S' pv y => by
    obtain ⟨rfl, hx⟩ := y
    exact hs i x E B' acc _ hx hl e S' pv) hd
theorem lc_T {a : Addr} {ys : List V} {g : TG} {tt : TT} {vs : List Nat} (S : Hs B M H) (hx : B a = some (.tup ys)) (Pv : Nat → Hp → List V → Prop) (h0 : Pv 0 B [])
    (hs : ∀ (i : Nat) (x : V) (E : Addr) (B' : Hp) (acc : List V) (H' : Hp), ys[i]? = some x → acc.length ≤ i → Same B B' → Hs B' ((E, .lst acc) :: M) H' → Pv i B' acc → g x (wipe σ vs) H' fun σ2 H2 => wipe σ2 vs = wipe σ vs ∧ tt σ2 H2 fun b H3 =>
      if b = true then te σ2 H3 fun y H4 => LcP B M Pv (i + 1) E y H4 else LcN B M Pv (i + 1) E H3)
    (hd : ∀ (E : Addr) (B' : Hp) (acc : List V) (H' : Hp), Same B B' → Hs B' ((E, .lst acc) :: M) H' → acc.length ≤ ys.length → Pv ys.length B' acc → Q (.ref E) H') : LcJ (Itt K a) g tt te vs σ H Q :=
  lc_by (walk_tup (K := K) (a := a) (xs := ys)) S Pv h0 (fun B' H' e S' => sqT_of (S'.ex _ _ (e _ _ hx))) (fun i x E B' acc H' H'' _ hl e S' pv y => by
    obtain ⟨rfl, hx⟩ := y
    exact hs i x E B' acc _ hx hl e S' pv) hd
theorem lc_R {n : Nat} {g : TG} {tt : TT} {vs : List Nat} (S : Hs B M H) (Pv : Nat → Hp → List V → Prop) (h0 : Pv 0 B [])
    (hs : ∀ (i : Nat) (E : Addr) (B' : Hp) (acc : List V) (H' : Hp), i < n → acc.length ≤ i → Same B B' → Hs B' ((E, .lst acc) :: M) H' → Pv i B' acc → g (.int (i : Int)) (wipe σ vs) H' fun σ2 H2 => wipe σ2 vs = wipe σ vs ∧ tt σ2 H2 fun b H3 =>
      if b = true then te σ2 H3 fun y H4 => LcP B M Pv (i + 1) E y H4 else LcN B M Pv (i + 1) E H3)
    (hd : ∀ (E : Addr) (B' : Hp) (acc : List V) (H' : Hp), Same B B' → Hs B' ((E, .lst acc) :: M) H' → acc.length ≤ n → Pv n B' acc → Q (.ref E) H') : LcJ (Itr 0 n) g tt te vs σ H Q :=
  lc_by (walk_range (lo := 0) (n := n)) S Pv h0 (fun _ _ _ _ => trivial) (fun i x E B' acc H' H'' hi hl e S' pv y => by
    obtain ⟨rfl, rfl⟩ := y
    show g (.int (0 + (i : Int))) _ _ _
    rw [Int.zero_add]
    exact hs i E B' acc _ hi hl e S' pv) hd
/-- over enumerate(xs), the pair a cell -/
theorem lc_E {a : Addr} {ys : List V} {g : TG} {tt : TT} {vs : List Nat} (S : Hs B M H) (hx : B a = some (.lst ys)) (Pv : Nat → Hp → List V → Prop) (h0 : Pv 0 B [])
    (hs : ∀ (i : Nat) (x : V) (E T : Addr) (B' : Hp) (acc : List V) (H' : Hp), ys[i]? = some x → acc.length ≤ i → Same B B' → Hs B' ((T, .tup [.int (i : Int), x]) :: (E, .lst acc) :: M) H' → Pv i B' acc → g (.ref T) (wipe σ vs) H' fun σ2 H2 => wipe σ2 vs = wipe σ vs ∧ tt σ2 H2 fun b H3 =>
      if b = true then te σ2 H3 fun y H4 => LcP B M Pv (i + 1) E y H4 else LcN B M Pv (i + 1) E H3)
    (hd : ∀ (E : Addr) (B' : Hp) (acc : List V) (H' : Hp), Same B B' → Hs B' ((E, .lst acc) :: M) H' → acc.length ≤ ys.length → Pv ys.length B' acc → Q (.ref E) H') : LcJ (Ite K a) g tt te vs σ H Q :=
  lc_by (walk_enum (K := K) (a := a) (xs := ys)) S Pv h0 (fun B' H' e S' => sqL_of (S'.ex _ _ (e _ _ hx))) (fun i x E B' acc H' H'' _ hl e S' pv y => by
    obtain ⟨T, u, z, rfl, h2, rfl, e1, e2⟩ := y
    cases e1
    exact hs i z E T B' acc _ e2 hl e (S'.new h2 _) pv) hd
end
end Rw

namespace Rw
open PySem PySem.Spec PyProof.Rows L2
/-! ### methods, classes -/
structure CalM (P : Program) (w : World) (K : PySem.W.Frag) (mg : Str → Option Value) (base : Heap) (C : Addr) (m : Str) (k : Nat) (ps : List Str) (sp : Sp) : Prop where
  ex : ∃ (f : Addr) (fd : FuncData), Meth K C m f ∧ Binds K fd ps [] ∧ FnOk P w K mg base CX0 k f fd ps sp
structure CalC (P : Program) (w : World) (K : PySem.W.Frag) (mg : Str → Option Value) (base : Heap) (C : Addr) (x : Str) (k : Nat) (ps : List Str) (sp : Sp) : Prop where
  ex : ∃ (f : Addr) (fd : FuncData), mg x = some (.ref C) ∧ Mk K C f ∧ Binds K fd ps [] ∧ FnOk P w K mg base CX0 k f fd ps sp
structure GloM (K : PySem.W.Frag) (C : Addr) (m qual : Str) (st : Stmt) : Prop where
  ex : ∃ (f : Addr) (fd : FuncData), Meth K C m f ∧ Fun K m qual st f fd
structure GloC (K : PySem.W.Frag) (mg : Str → Option Value) (C : Addr) (x qual : Str) (st : Stmt) : Prop where
  ex : ∃ (f : Addr) (fd : FuncData), mg x = some (.ref C) ∧ Mk K C f ∧ Fun K "__init__" qual st f fd
section
variable {P : Program} {w : World} {K : PySem.W.Frag} {mg : Str → Option Value} {base : Heap} {C : Addr} {x m qual : Str} {st : Stmt} {k : Nat} {ps N : List Str} {sp : Sp}
theorem GloM.cal (G : GloM K C m qual st) (S : FnScope N ps (defScope st)) (bn : ∀ (kV doc pm : Value) (an : Option Addr) (cdv ct : Value) (us : List Value), us.length = ps.length → bindArgs (PySem.W.fnOf m qual (defArgs st) (defBody st) (defScope st) .none kV doc pm an cdv ct) ⟨us, []⟩ = pure (ps.zip us))
    (len : ∀ (vs : List V) (H : Hp) (Q : VK) (E : XK), sp vs H Q E → vs.length = ps.length)
    (hbody : ∀ (f : Addr) (cdv : Value) (A : Around) (outer : List Env) (s : Shared) (H : Hp) (vs : List V) (Q : VK) (E : XK), Room k (A.deeper (envOfC qual (defScope st) s.heap.objs.size f cdv)) → sp vs H Q E →
      ∃ t, PSs (cxOf CX0 P w K mg base N qual (defScope st) f cdv A outer s H E).nox (defBody st) t ∧ t { nx := fun _ H' => Q .non H', rt := Q } (start N vs) H) : CalM P w K mg base C m (k + 1) ps sp := by
  obtain ⟨f, fd, h1, F⟩ := G.ex
  exact ⟨f, fd, h1, F.binds bn, F.ok S len (fun cdv A outer s H vs Q E hr h => hbody f cdv A outer s H vs Q E hr h)⟩
theorem GloC.cal (G : GloC K mg C x qual st) (S : FnScope N ps (defScope st)) (bn : ∀ (kV doc pm : Value) (an : Option Addr) (cdv ct : Value) (us : List Value), us.length = ps.length → bindArgs (PySem.W.fnOf "__init__" qual (defArgs st) (defBody st) (defScope st) .none kV doc pm an cdv ct) ⟨us, []⟩ = pure (ps.zip us))
    (len : ∀ (vs : List V) (H : Hp) (Q : VK) (E : XK), sp vs H Q E → vs.length = ps.length)
    (hbody : ∀ (f : Addr) (cdv : Value) (A : Around) (outer : List Env) (s : Shared) (H : Hp) (vs : List V) (Q : VK) (E : XK), Room k (A.deeper (envOfC qual (defScope st) s.heap.objs.size f cdv)) → sp vs H Q E →
      ∃ t, PSs (cxOf CX0 P w K mg base N qual (defScope st) f cdv A outer s H E).nox (defBody st) t ∧ t { nx := fun _ H' => Q .non H', rt := Q } (start N vs) H) : CalC P w K mg base C x (k + 1) ps sp := by
  obtain ⟨f, fd, h1, h2, F⟩ := G.ex
  exact ⟨f, fd, h1, h2, F.binds bn, F.ok S len (fun cdv A outer s H vs Q E hr h => hbody f cdv A outer s H vs Q E hr h)⟩
end
section
variable {X : Cx} {C : Addr} {x m : Str} {k : Nat} {ps : List Str} {sp : Sp} {o e : Expr} {es : List Expr} {ta : TE} {t : TA} {p apos pos : Pos}
theorem pe_calM {pl : Sem Bool} (he : PE X o ta) (T : Cls X.K C) (F : CalM X.prog X.w X.K X.mg X.base C m k ps sp) (hr : Room k X.A) (ha : PA X (e :: es) t)
    (star : starEach (e :: es) X.env = (false, eval e X.env) :: starEach es X.env := by rfl) (plain : (backTo pos (starEach es X.env)).any (·.1) = false := by rfl) (ht : eval (.Call (.Attribute o m apos) (e :: es) [] pos) X.env = (do
      let w ← eval o X.env
      standAt apos.atName
      let (f, one) ← holding [w] (getMethod w m pl)
      callWith pos f one (backTo pos (starEach (e :: es) X.env)) (backToKw pos (keywordEach [] X.env))) := by rfl) :
    PE X (.Call (.Attribute o m apos) (e :: es) [] pos) (tMeth C m sp [] E0 ta t) := by
  obtain ⟨f, fd, h1, h2, h3⟩ := F.ex
  exact pe_meth he T h1 h3 hr h2 .nil pass0 ha star plain ht
theorem pe_calM0 {pl : Sem Bool} (he : PE X o ta) (T : Cls X.K C) (F : CalM X.prog X.w X.K X.mg X.base C m k ps sp) (hr : Room k X.A)
    (bare : eval (.Call (.Attribute o m apos) [] [] pos) X.env = (do
      let w ← eval o X.env
      standAt apos.atName
      let (f, one) ← holding [w] (getMethod w m pl)
      callWith pos f one (backTo pos (starEach [] X.env)) (backToKw pos (keywordEach [] X.env))) := by rfl) :
    PE X (.Call (.Attribute o m apos) [] [] pos) (tMeth C m sp [] E0 ta tNil) := by
  obtain ⟨f, fd, h1, h2, h3⟩ := F.ex
  exact pe_meth0 he T h1 h3 hr h2 .nil pass0 bare
theorem pe_mk (F : CalC X.prog X.w X.K X.mg X.base C x k ps sp) (hr : Room (k + 1) X.A) (hg : Gl X x) (ha : PA X (e :: es) t) (hdb : (x == ("__debug__" : Str)) = false := by decide) (he : starEach (e :: es) X.env = (false, eval e X.env) :: starEach es X.env := by rfl) (hpl : (backTo pos (starEach es X.env)).any (·.1) = false := by rfl) :
    PE X (.Call (.Name x p) (e :: es) [] pos) (tMake C sp [] E0 t) := by
  obtain ⟨f, fd, h1, h2, h3, h4⟩ := F.ex
  exact pe_make h2 h4 hr hg h1 h3 .nil pass0 ha hdb he hpl
end
end Rw

namespace Rw
open PySem PySem.Spec PyProof.Rows L2
/-! ### rules by the written part -/
section
variable {X : Cx}
theorem k_len (K : PySem.W.Frag) (e : X.K = K := by rfl) : CallR X (.builtin "len") (rLenX K) := by subst e; exact call_lenX
theorem k_list (K : PySem.W.Frag) (e : X.K = K := by rfl) : CallR X (.type "list") (rListX K) := by subst e; exact call_listX
theorem k_tuple (K : PySem.W.Frag) (e : X.K = K := by rfl) : CallR X (.type "tuple") (rTupX K) := by subst e; exact call_tupX
theorem k_type (K : PySem.W.Frag) (e : X.K = K := by rfl) : CallR X (.type "type") (rTyp K) := by subst e; exact call_type1
theorem k_isi (K : PySem.W.Frag) (e : X.K = K := by rfl) : CallR X (.builtin "isinstance") (rIsi K) := by subst e; exact call_isi
theorem k_sum (K : PySem.W.Frag) (hc : X.calm = true) (e : X.K = K := by rfl) : CallR X (.builtin "sum") (rSum K) := by subst e; exact cr_sum hc
theorem k_all (K : PySem.W.Frag) (hc : X.calm = true) (e : X.K = K := by rfl) : CallR X (.builtin "all") (rAll K) := by subst e; exact cr_all hc
theorem k_any (K : PySem.W.Frag) (hc : X.calm = true) (e : X.K = K := by rfl) : CallR X (.builtin "any") (rAny K) := by subst e; exact cr_any hc
theorem k_in (K : PySem.W.Frag) (e : X.K = K := by rfl) : OpR X (compareOp .In) (rIn K false) := by subst e; exact op_in_seq
theorem k_notIn (K : PySem.W.Frag) (e : X.K = K := by rfl) : OpR X (compareOp .NotIn) (rIn K true) := by subst e; exact op_notIn_seq
theorem k_eqD (K : PySem.W.Frag) (hu : X.A.units + 64 < cLine) (e : X.K = K := by rfl) : OpR X (compareOp .Eq) (rEqD K) := by subst e; exact op_eqD hu
theorem k_neD (K : PySem.W.Frag) (hu : X.A.units + 64 < cLine) (e : X.K = K := by rfl) : OpR X (compareOp .NotEq) (rNeD K) := by subst e; exact op_neD hu
theorem k_ixL (K : PySem.W.Frag) (e : X.K = K := by rfl) : IxR X (rIxL K) := by subst e; exact ix_list
theorem k_ixT (K : PySem.W.Frag) (e : X.K = K := by rfl) : IxR X (rIxT K) := by subst e; exact ix_tup
theorem k_slL (K : PySem.W.Frag) (e : X.K = K := by rfl) : SlR X (rSlL K) := by subst e; exact sl_list
theorem k_slT (K : PySem.W.Frag) (e : X.K = K := by rfl) : SlR X (rSlT K) := by subst e; exact sl_tup
theorem k_lcount (K : PySem.W.Frag) (e : X.K = K := by rfl) : MtR X "list.count" (rCntI K) := by subst e; exact mt_lcount
variable {value e o : Expr} {es : List Expr} {ta tv te to tl : TE} {t : TA} {f name : Str} {T id : String} {r : V → List V → Hp → VK → Prop} {pos pos' apos cpos tpos p : Pos} {tg : Expr} {elts : List Expr} {kk n : Nat}
theorem pe_fldK (K : PySem.W.Frag) (he : PE X e ta) (hb : attributeBase e f X.env (eval e X.env) = eval e X.env) (eK : X.K = K := by rfl) : PE X (.Attribute e f pos) (tFld K ta f) := by subst eK; exact pe_fld he hb
theorem ps_fldK (K : PySem.W.Frag) (ha : PE X o ta) (hv : PE X value tv) (hs : swapsWith value (some (.Attribute o f pos')) pos.line X.env = pure false) (eK : X.K = K := by rfl) : PS X (.Assign [.Attribute o f pos'] value pos) (sFld K ta tv f) := by subst eK; exact ps_fld ha hv hs
theorem pe_bm0K (K : PySem.W.Frag) (pa : PlainAttrs T) (slot : Slot T name id) (hty : typeOf (.builtin id) = pure (.type "method_descriptor")) (hm : MtR X id r) (ho : PE X o to)
    (eK : X.K = K := by rfl) (hbase : attributeBase o name X.env (eval o X.env) = eval o X.env := by rfl) (hline : (apos.endLine == cpos.line) = true := by rfl) : PE X (.Call (.Attribute o name apos) [] [] cpos) (tBM0 K T r to) := by
  subst eK
  exact pe_bm0 pa slot hty hm ho hbase hline
theorem pe_bmK (K : PySem.W.Frag) (pa : PlainAttrs T) (slot : Slot T name id) (hty : typeOf (.builtin id) = pure (.type "method_descriptor")) (hm : MtR X id r) (ho : PE X o to) (ha : PA X (e :: es) t)
    (eK : X.K = K := by rfl) (hbase : attributeBase o name X.env (eval o X.env) = eval o X.env := by rfl)
    (few : ((backTo cpos (starEach (e :: es) X.env)).all (fun z => !z.1) && (backToKw cpos (keywordEach [] X.env)).all (fun z => z.1.isSome) && decide ((e :: es).length + ([] : List Keyword).length + (if ([] : List Keyword).isEmpty then 0 else 1) < 30)) = true := by rfl)
    (line : (apos.endLine == cpos.line) = true := by rfl) (star : starEach (e :: es) X.env = (false, eval e X.env) :: starEach es X.env := by rfl) (plain : (backTo cpos (starEach es X.env)).any (·.1) = false := by rfl) :
    PE X (.Call (.Attribute o name apos) (e :: es) [] cpos) (tBM K T r to t) := by
  subst eK
  exact pe_bm pa slot hty hm ho ha hbase few line star plain
def tTru (K : PySem.W.Frag) (ta : TE) : TT := fun σ H Q => ta σ H fun x H' => ∃ c, TruV K x H' c ∧ Q c H'
theorem pt_truthK (K : PySem.W.Frag) (ha : PE X e ta) (he : ∀ whole, isTrue e X.env whole = (do let v ← whole; standAt e.pos; holding [v] (truthy v))) (eK : X.K = K := by rfl) : PT X e (tTru K ta) := by subst eK; exact pt_truth ha he
theorem pe_notTK (K : PySem.W.Frag) (ha : PE X e ta) (eK : X.K = K := by rfl) : PE X (.UnaryOp .Not e pos) (tNotT K ta) := by subst eK; exact pe_notT ha
theorem pe_andTK {b : Expr} {rest : List Expr} {tb : TE} (K : PySem.W.Frag) (ha : PE X e ta) (hb : PE X (.BoolOp .And (b :: rest) pos) tb) (eK : X.K = K := by rfl) : PE X (.BoolOp .And (e :: b :: rest) pos) (tAndT K ta tb) := by subst eK; exact pe_andT ha hb
theorem pe_orTK {b : Expr} {rest : List Expr} {tb : TE} (K : PySem.W.Frag) (ha : PE X e ta) (hb : PE X (.BoolOp .Or (b :: rest) pos) tb) (eK : X.K = K := by rfl) : PE X (.BoolOp .Or (e :: b :: rest) pos) (tOrT K ta tb) := by subst eK; exact pe_orT ha hb
theorem pi_listK (K : PySem.W.Frag) (hl : PE X e tl) (eK : X.K = K := by rfl) : PI X tg e (iList K tl) := by subst eK; exact pi_list hl
theorem pi_tupK (K : PySem.W.Frag) (hl : PE X e tl) (eK : X.K = K := by rfl) : PI X tg e (iTup K tl) := by subst eK; exact pi_tup hl
theorem pi_enumK {ta : TA} (K : PySem.W.Frag) (hg : Gl X "enumerate") (hm : X.mg "enumerate" = none) (ha : PA X [e] ta) (eK : X.K = K := by rfl) (hs : starEach [e] X.env = [(false, eval e X.env)] := by rfl) :
    PI X (.Tuple elts kk tpos) (.Call (.Name "enumerate" p) [e] [] pos) (iEnum K ta) := by subst eK; exact pi_enum hg hm ha hs
theorem pi_zipK {e2 : Expr} {ta : TA} (K : PySem.W.Frag) (hg : Gl X "zip") (hm : X.mg "zip" = none) (ha : PA X [e, e2] ta) (eK : X.K = K := by rfl)
    (star : starEach [e, e2] X.env = (false, eval e X.env) :: starEach [e2] X.env := by rfl) (plain : (backTo pos (starEach [e2] X.env)).any (·.1) = false := by rfl) :
    PI X (.Tuple elts kk tpos) (.Call (.Name "zip" p) [e, e2] [] pos) (iZip K ta) := by subst eK; exact pi_zip hg hm ha star plain
theorem pg_tupK {t : TGs} (K : PySem.W.Frag) (hc : X.calm = true) (h : PGs X es t) (eK : X.K = K := by rfl)
    (hn : (assignEach es X.env).length = n := by rfl) (hst : (assignEach es X.env).findIdx? (·.1) = none := by rfl) : PG X (.Tuple es kk pos) (gTup K n t) := by subst eK; exact pg_tup hc h hn hst
end
/-! their readings -/
section
variable {K : PySem.W.Frag} {σ : L2.St} {H : Hp} {Q : VK} {ta tb : TE} {p : Addr} {xs : List V} {v : V}
def TruX (K : PySem.W.Frag) (x : V) (H : Hp) (R : Bool → Hp → Prop) : Prop := ∃ k, TruV K x H k ∧ R k H
theorem w_tru {R : Bool → Hp → Prop} (k : ta σ H fun x H' => TruX K x H' R) : tTru K ta σ H R := k
theorem w_truB {R : Bool → Hp → Prop} {b : Bool} (k : R b H) : TruX K (.bl b) H R := ⟨b, rfl, k⟩
theorem w_truI {R : Bool → Hp → Prop} {i : Int} (k : R (i != 0) H) : TruX K (.int i) H R := ⟨_, rfl, k⟩
theorem w_truL {R : Bool → Hp → Prop} (h : SqL K H p xs) (k : R (!xs.isEmpty) H) : TruX K (.ref p) H R := ⟨_, .inl ⟨xs, h, rfl⟩, k⟩
theorem w_truT {R : Bool → Hp → Prop} (h : SqT K H p xs) (k : R (!xs.isEmpty) H) : TruX K (.ref p) H R := ⟨_, .inr (.inl ⟨xs, h, rfl⟩), k⟩
theorem w_notT' (k : ta σ H fun x H1 => TruX K x H1 fun c H2 => Q (.bl (!c)) H2) : tNotT K ta σ H Q := k
theorem w_andT (k : ta σ H fun x H1 => TruX K x H1 fun c H2 => if c = true then tb σ H2 Q else Q x H2) : tAndT K ta tb σ H Q := k
theorem w_orT (k : ta σ H fun x H1 => TruX K x H1 fun c H2 => if c = true then Q x H2 else tb σ H2 Q) : tOrT K ta tb σ H Q := k
end
end Rw

namespace Rw
open PySem PySem.Spec PyProof.Rows L2
section
variable {σ : L2.St} {H : Hp} {D : Ends} {tb : TS} {c : TT}
/-- while, by a word over things of one's own and a measure of these -/
def WhW {α : Type} (Pv : α → L2.St → Hp → Prop) (μ : α → Nat) (m : Nat) (σ : L2.St) (H : Hp) : Prop := ∃ a, μ a = m ∧ Pv a σ H
def WhB {α : Type} (Pv : α → L2.St → Hp → Prop) (μ : α → Nat) (m : Nat) (tb : TS) (D : Ends) (σ : L2.St) (H : Hp) : Prop := ∃ N : L2.St → Hp → Prop, (∀ σ' H', N σ' H' → ∃ m', m' < m ∧ WhW Pv μ m' σ' H') ∧ tb { D with nx := N, ct := N, bk := D.nx } σ H
theorem whb {α : Type} {Pv : α → L2.St → Hp → Prop} {μ : α → Nat} {m : Nat} (k : tb { D with nx := fun σ' H' => ∃ a, μ a < m ∧ Pv a σ' H', ct := fun σ' H' => ∃ a, μ a < m ∧ Pv a σ' H', bk := D.nx } σ H) : WhB Pv μ m tb D σ H :=
  ⟨_, fun σ' H' ⟨a, h1, h2⟩ => ⟨_, h1, a, rfl, h2⟩, k⟩
theorem w_while {α : Type} (Pv : α → L2.St → Hp → Prop) (μ : α → Nat) (a0 : α) (h0 : Pv a0 σ H)
    (hs : ∀ a σ H, Pv a σ H → c σ H fun b H1 => if b = true then WhB Pv μ (μ a) tb D σ H1 else D.nx σ H1) : tWhile c tb D σ H := by
  refine ⟨WhW Pv μ, ⟨_, a0, rfl, h0⟩, ?_⟩
  rintro m σ H ⟨a, rfl, p⟩
  exact hs a σ H p
end
/-! ### ints in lists -/
theorem inV_int (c : Int) : ∀ xs : List Int, inV (.int c) (xs.map V.int) = decide (c ∈ xs)
  | [] => by simp [inV]
  | x :: xs => by
    have ih := inV_int c xs
    unfold inV at ih ⊢
    rw [List.map_cons, List.any_cons, ih]
    show ((x == c) || decide (c ∈ xs)) = decide (c ∈ x :: xs)
    rw [Bool.eq_iff_iff]
    simp only [Bool.or_eq_true, beq_iff_eq, decide_eq_true_eq, List.mem_cons]
    constructor
    · rintro (h | h)
      · exact .inl h.symm
      · exact .inr h
    · rintro (h | h)
      · exact .inl h.symm
      · exact .inr h
theorem flat_ints : ∀ xs : List Int, (xs.map V.int).all flatV = true
  | [] => rfl
  | x :: xs => by rw [List.map_cons, List.all_cons, flat_ints xs]; rfl
/-- a list without repeats of numbers below n has at most n items -/
theorem pigeon : ∀ (n : Nat) (xs : List Int), xs.Nodup → (∀ x ∈ xs, 0 ≤ x ∧ x < (n : Int)) → xs.length ≤ n
  | 0, xs, _, h => by
    cases xs with
    | nil => exact Nat.le_refl _
    | cons x xs => have := h x List.mem_cons_self; omega
  | n + 1, xs, nd, h => by
    have h2 : (xs.erase (n : Int)).length ≤ n := pigeon n _ (nd.erase _) fun x hx => by
      have hm := List.mem_of_mem_erase hx
      have hne : x ≠ (n : Int) := fun e => by
        subst e
        exact ((List.Nodup.mem_erase_iff nd).mp hx).1 rfl
      have := h x hm
      omega
    rw [List.length_erase] at h2
    split at h2 <;> omega
theorem pigeon_all {n : Nat} {xs : List Int} (nd : xs.Nodup) (h : ∀ x ∈ xs, 0 ≤ x ∧ x < (n : Int)) : xs.length = n ↔ ∀ x : Int, 0 ≤ x → x < (n : Int) → x ∈ xs := by
  constructor
  · intro e x h0 h1
    refine Classical.byContradiction fun hx => ?_
    have := pigeon n (x :: xs) (List.nodup_cons.mpr ⟨hx, nd⟩) fun y hy => by
      rcases List.mem_cons.mp hy with rfl | hy
      · exact ⟨h0, h1⟩
      · exact h y hy
    simp at this
    omega
  · intro hall
    refine Nat.le_antisymm (pigeon n xs nd h) ?_
    have hsub : ((List.range n).map fun i : Nat => (i : Int)) ⊆ xs := fun y hy => by
      obtain ⟨i, hi, rfl⟩ := List.mem_map.mp hy
      have := List.mem_range.mp hi
      exact hall _ (by omega) (by omega)
    have hnd : ((List.range n).map fun i : Nat => (i : Int)).Nodup := by
      refine List.Pairwise.map _ (fun a b hab e => hab ?_) List.nodup_range
      exact Int.ofNat.inj e
    have := hnd.length_le_of_subset hsub
    simpa using this
end Rw

namespace Rw
open PySem PySem.Spec PyProof.Rows L2
/-! ### tuples whose object is known: their methods may be called -/
def FT (H : Hp) (p : Addr) (xs : List V) : Prop := ∃ o : Obj, o.cls = .type "tuple" ∧ o.dict = none ∧ H p = some (.frz o (.tup xs))
theorem FT.sq {K : PySem.W.Frag} {H : Hp} {p : Addr} {xs : List V} (h : FT H p xs) : SqT K H p xs := by
  obtain ⟨o, _, _, h⟩ := h
  exact .inl (.inr ⟨o, h⟩)
theorem FT.mono {H H' : Hp} {p : Addr} {xs : List V} (e : Same H H') (h : FT H p xs) : FT H' p xs := by
  obtain ⟨o, h1, h2, h⟩ := h
  exact ⟨o, h1, h2, e _ _ h⟩
def rTupF (K : PySem.W.Frag) : List V → Hp → VK → Prop := fun xs H Q => ∃ p ys, xs = [.ref p] ∧ SqL K H p ys ∧ ∀ (l : Addr) (o : Obj), H l = none → o.cls = .type "tuple" → o.dict = none → Q (.ref l) (upd H l (.frz o (.tup ys)))
theorem k_tupF {X : Cx} (K : PySem.W.Frag) (e : X.K = K := by rfl) : CallR X (.type "tuple") (rTupF K) := by
  subst e
  intro pl0 s σ H xs us Q I rel ask
  obtain ⟨p, ys, rfl, hq, q⟩ := ask
  obtain ⟨_, rfl, rx⟩ := vals1 rel
  cases rx
  obtain ⟨its, rv, pl, hz⟩ := id (I.list hq)
  have hn := rv.length
  refine call_tuple_list pl.isList (fun g kp => ?_) (by simp only [List.size_toArray]; omega)
  have I1 : Inv X pl0 σ H { s with heap := g } := I.kept (t' := s.toks) kp
  refine ⟨.ref g.objs.size, upd H g.objs.size (.frz ⟨.type "tuple", none, .seq its.toArray, #[]⟩ (.tup ys)), ?_, rfl, q _ _ (I1.hok.fresh (Nat.le_refl _)) rfl rfl⟩
  refine I1.laid (t' := s.toks) (fun b o e => Heap.get?_push_of_some _ e) (Nat.le_refl _) ?_
  exact ⟨Heap.get?_push_size _ rfl, hz, its, rv, IsTup.new _ _⟩
/-- a tuple's method -/
def tFT (r : V → List V → Hp → VK → Prop) (to : TE) (t : TA) : TE := fun σ H Q => to σ H fun x H1 => (∃ p xs, x = .ref p ∧ FT H1 p xs) ∧ t σ H1 fun vs H2 => r x vs H2 Q
theorem pe_ftm {X : Cx} {o e : Expr} {es : List Expr} {to : TE} {t : TA} {name : Str} {id : String} {r : V → List V → Hp → VK → Prop} {apos cpos : Pos} (pa : PlainAttrs "tuple") (slot : Slot "tuple" name id) (hty : typeOf (.builtin id) = pure (.type "method_descriptor")) (hm : MtR X id r) (ho : PE X o to) (ha : PA X (e :: es) t)
    (base : attributeBase o name X.env (eval o X.env) = eval o X.env := by rfl)
    (few : ((backTo cpos (starEach (e :: es) X.env)).all (fun z => !z.1) && (backToKw cpos (keywordEach [] X.env)).all (fun z => z.1.isSome) && decide ((e :: es).length + ([] : List Keyword).length + (if ([] : List Keyword).isEmpty then 0 else 1) < 30)) = true := by rfl)
    (line : (apos.endLine == cpos.line) = true := by rfl) (star : starEach (e :: es) X.env = (false, eval e X.env) :: starEach es X.env := by rfl) (plain : (backTo cpos (starEach es X.env)).any (·.1) = false := by rfl) :
    PE X (.Call (.Attribute o name apos) (e :: es) [] cpos) (tFT r to t) := by
  constructor
  intro pl s σ H Q I ask
  refine wpAny_Call_method_late base few line rfl (thn (ho.run pl s σ H _ I ask) fun v s1 z => ?_)
  obtain ⟨x, H1, I1, r1, ⟨p, xs, rfl, ob, hc, hd, hp⟩, q1⟩ := z
  cases r1
  have ho := (I1.hok p _ hp).1
  refine ⟨"tuple", id, pa, slot, hty, ⟨ob, ho, hc⟩, fun a ea => ?_, ?_⟩
  · cases ea
    exact ⟨ob, ho, hd⟩
  have args := ha.run cpos pl s1 σ H1 _ I1 q1
  rw [star] at args ⊢
  have none_ : (false || (backTo cpos (starEach es X.env)).any (·.1)) = false := by rw [plain]; rfl
  refine Calls.callWith_builtin none_ (Calls.evalArgs_plain (thn args fun us s2 z => ?_))
  obtain ⟨vs, H2, I2, r2, q2⟩ := z
  exact hm pl s2 σ H2 (.ref p) vs (.ref p) us Q I2 rfl r2 q2
def rTcX (K : PySem.W.Frag) : V → List V → Hp → VK → Prop := fun x xs H Q => ∃ (p : Addr) (ns : List Int) (k : Int), x = .ref p ∧ xs = [.int k] ∧ SqT K H p (ns.map V.int) ∧ Q (.int (ns.count k : Nat)) H
theorem k_tcount {X : Cx} (K : PySem.W.Frag) (e : X.K = K := by rfl) : MtR X "tuple.count" (rTcX K) := by
  subst e
  intro pins s σ H x ys v us Q I rx ry h
  obtain ⟨p, ns, k, rfl, rfl, hq, q⟩ := h
  cases rx
  obtain ⟨u, rfl, t, rfl⟩ := vals1 ry
  obtain ⟨its, rv, ⟨⟨c, dd, dt, sl⟩, ho, hc, n, hd⟩, _⟩ := I.tuple hq
  simp only at hc hd
  subst hc hd
  have hi := ints_of_vals rv
  refine call_meets PySem.F.slot_tuple_count ⟨_, ho, rfl⟩ PySem.F.entry_tuple_count (PySem.F.args_tuple_count_2 _ _)
    (SeqAt.tuple_countAt p its.toArray n dd sl (.int k t) (eqk k)) ⟨ho, fun y hy => (eqk_gives hi y (by simpa using hy)).at _ _, ?_⟩
  have many : its.toArray.toList.countP (eqk k) = ns.count k := eqk_count hi
  exact ⟨.int (ns.count k : Nat), H, I.tok _, ⟨s.toks, by simpa using congrArg (fun z : Nat => Value.int (z : Int) s.toks) many⟩, q⟩
section
variable {K : PySem.W.Frag} {σ : L2.St} {B H : Hp} {M : List (Addr × HO)} {Q : VK} {p : Addr} {xs : List V} {ta : TE}
theorem w_tcount {ns : List Int} {j : Int} (h : SqT K H p (ns.map V.int)) (k : Q (.int (ns.count j : Nat)) H) : rTcX K (.ref p) [.int j] H Q := ⟨p, ns, j, rfl, rfl, h, k⟩
theorem w_tupF (S : Hs B M H) (h : SqL K H p xs) (k : ∀ (q : Addr) (o : Obj) (H' : Hp), o.cls = .type "tuple" → o.dict = none → Hs B ((q, .frz o (.tup xs)) :: M) H' → Q (.ref q) H') : rTupF K [.ref p] H Q :=
  ⟨p, xs, rfl, h, fun l o hl hc hd => k l o _ hc hd (S.new hl _)⟩
def FtmX (r : V → List V → Hp → VK → Prop) (x : V) (t : TA) (σ : L2.St) (H : Hp) (Q : VK) : Prop := (∃ p xs, x = .ref p ∧ FT H p xs) ∧ t σ H fun vs H2 => r x vs H2 Q
theorem w_ftm {r : V → List V → Hp → VK → Prop} {t : TA} (k : ta σ H fun x H1 => FtmX r x t σ H1 Q) : tFT r ta t σ H Q := k
theorem w_ftmE {r : V → List V → Hp → VK → Prop} {t : TA} (h : FT H p xs) (k : t σ H fun vs H2 => r (.ref p) vs H2 Q) : FtmX r (.ref p) t σ H Q := ⟨⟨p, xs, rfl, h⟩, k⟩
end
end Rw

namespace Rw
open PySem PySem.Spec PyProof.Rows L2
section
variable {B B' H : Hp} {M : List (Addr × HO)} {a : Addr} {o : HO}
/-- what was new and shut is opened again: the still part is what it was ahead -/
theorem Hs.thaw (S : Hs B' M H) (e : Same B B') (h : B a = none) (h2 : B' a = some o) : Hs B ((a, o) :: M) H := by
  refine ⟨e.trans S.ex, fun c hc => ?_, List.nodup_cons.mpr ⟨fun hm => ?_, S.nd⟩⟩
  · rcases List.mem_cons.mp hc with q | q
    · subst q
      exact ⟨h, S.ex _ _ h2⟩
    · exact ⟨e.free (S.cel c q).1, (S.cel c q).2⟩
  · obtain ⟨c, hc, q⟩ := List.mem_map.mp hm
    have := (S.cel c hc).1
    rw [show c.1 = a from q, h2] at this
    cases this
theorem look1 {α : Type} {f : Str} {v : α} : [(f, v)].lookup f = some v := by simp [List.lookup]
theorem look1n {α : Type} {f g : Str} {v : α} (h : ¬ g = f) : [(f, v)].lookup g = none := by
  have hb : (g == f) = false := beq_eq_false_iff_ne.mpr h
  simp [List.lookup, hb]
end
end Rw

namespace Rw
open PySem PySem.Spec PyProof.Rows L2
section
variable {K : PySem.W.Frag} {σ : L2.St} {H : Hp} {Q : VK} {B : Hp} {M : List (Addr × HO)} {te : TE}
/-- over a tuple that stands in B, its object known -/
theorem lc_F {a : Addr} {ys : List V} {g : TG} {tt : TT} {vs : List Nat} (S : Hs B M H) (hx : FT B a ys) (Pv : Nat → Hp → List V → Prop) (h0 : Pv 0 B [])
    (hs : ∀ (i : Nat) (x : V) (E : Addr) (B' : Hp) (acc : List V) (H' : Hp), ys[i]? = some x → acc.length ≤ i → Same B B' → Hs B' ((E, .lst acc) :: M) H' → Pv i B' acc → g x (wipe σ vs) H' fun σ2 H2 => wipe σ2 vs = wipe σ vs ∧ tt σ2 H2 fun b H3 =>
      if b = true then te σ2 H3 fun y H4 => LcP B M Pv (i + 1) E y H4 else LcN B M Pv (i + 1) E H3)
    (hd : ∀ (E : Addr) (B' : Hp) (acc : List V) (H' : Hp), Same B B' → Hs B' ((E, .lst acc) :: M) H' → acc.length ≤ ys.length → Pv ys.length B' acc → Q (.ref E) H') : LcJ (Itt K a) g tt te vs σ H Q :=
  lc_by (walk_tup (K := K) (a := a) (xs := ys)) S Pv h0 (fun B' H' e S' => ((hx.mono e).mono S'.ex).sq) (fun i x E B' acc H' H'' _ hl e S' pv y => by
    obtain ⟨rfl, hx⟩ := y
    exact hs i x E B' acc _ hx hl e S' pv) hd
end
end Rw

namespace Rw
open PySem PySem.Spec PyProof.Rows L2
section
variable {K : PySem.W.Frag} {σ : L2.St} {H : Hp} {Q : VK} {B : Hp} {M : List (Addr × HO)} {ta tb : TE}
/-- list(range(n)), list(range(a, b)) -/
def rangeI (n : Nat) : List Int := (List.range n).map fun i : Nat => (i : Int)
theorem rgV_0 (n : Int) : rgV 0 n = (rangeI n.toNat).map V.int := by
  unfold rgV rangeI
  rw [List.map_map, Int.sub_zero]
  refine List.map_congr_left fun i _ => ?_
  show V.int (0 + (i : Int)) = V.int (i : Int)
  rw [Int.zero_add]
def LRgX (a b : Int) (H : Hp) (Q : VK) : Prop := RgOk a b ∧ ∀ q, H q = none → Q (.ref q) (upd H q (.lst (rgV a b)))
theorem w_lrg {te : L2.St → Hp → (Int → Int → Hp → Prop) → Prop} (k : te σ H fun a b H1 => LRgX a b H1 Q) : tLstRg te σ H Q := k
def Rg1X (x : V) (H : Hp) (R : Int → Int → Hp → Prop) : Prop := ∃ n, x = .int n ∧ R 0 n H
theorem w_rg1 {R : Int → Int → Hp → Prop} (k : ta σ H fun x H1 => Rg1X x H1 R) : tRg1 ta σ H R := k
theorem w_rg1E {n : Int} {R : Int → Int → Hp → Prop} (k : R 0 n H) : Rg1X (.int n) H R := ⟨n, rfl, k⟩
theorem w_lrgE {n : Int} (S : Hs B M H) (h0 : 0 ≤ n) (h1 : n ≤ 1000) (k : ∀ q H', Hs B ((q, .lst ((rangeI n.toNat).map V.int)) :: M) H' → Q (.ref q) H') : LRgX 0 n H Q :=
  ⟨.of_le (by omega) (by omega) (by omega) h0, fun q hq => by rw [rgV_0]; exact k q _ (S.new hq _)⟩
theorem rangeI_len (n : Nat) : (rangeI n).length = n := by unfold rangeI; simp
theorem rangeI_get {n i : Nat} (h : i < n) : (rangeI n)[i]? = some (i : Int) := by unfold rangeI; simp [h]
theorem mem_rangeI {n : Nat} {x : Int} : x ∈ rangeI n ↔ 0 ≤ x ∧ x < (n : Int) := by
  unfold rangeI
  rw [List.mem_map]
  constructor
  · rintro ⟨i, hi, rfl⟩
    have := List.mem_range.mp hi
    omega
  · rintro ⟨h0, h1⟩
    exact ⟨x.toNat, List.mem_range.mpr (by omega), by omega⟩
theorem rangeI_up (n : Nat) : (rangeI n).Pairwise (· < ·) := by
  unfold rangeI
  refine List.Pairwise.map _ (fun a b h => ?_) List.pairwise_lt_range
  omega
/-- two rising lists of the same numbers are one -/
theorem up_eq : ∀ {xs ys : List Int}, xs.Pairwise (· < ·) → ys.Pairwise (· < ·) → (∀ x, x ∈ xs ↔ x ∈ ys) → xs = ys
  | [], [], _, _, _ => rfl
  | [], y :: ys, _, _, h => by have := (h y).mpr List.mem_cons_self; simp at this
  | x :: xs, [], _, _, h => by have := (h x).mp List.mem_cons_self; simp at this
  | x :: xs, y :: ys, hx, hy, h => by
    obtain ⟨hx1, hx2⟩ := List.pairwise_cons.mp hx
    obtain ⟨hy1, hy2⟩ := List.pairwise_cons.mp hy
    have e : x = y := by
      rcases List.mem_cons.mp ((h x).mp List.mem_cons_self) with e | hm
      · exact e
      · rcases List.mem_cons.mp ((h y).mpr List.mem_cons_self) with e | hm2
        · exact e.symm
        · have a := hy1 x hm
          have b := hx1 y hm2
          omega
    subst e
    rw [up_eq hx2 hy2 fun z => ?_]
    constructor
    · intro hz
      rcases List.mem_cons.mp ((h z).mp (List.mem_cons_of_mem _ hz)) with e | hm
      · have := hx1 z hz; omega
      · exact hm
    · intro hz
      rcases List.mem_cons.mp ((h z).mpr (List.mem_cons_of_mem _ hz)) with e | hm
      · have := hy1 z hz; omega
      · exact hm
/-! ### == of lists of ints -/
def dI (xs : List Int) : PyData := .list (xs.map .int)
theorem dpAll_ints {K : PySem.W.Frag} {H : Hp} : ∀ xs : List Int, DpAll K H (xs.map V.int) (xs.map PyData.int)
  | [] => .nil
  | x :: xs => .cons (.int x) (dpAll_ints xs)
theorem dp_ints {K : PySem.W.Frag} {H : Hp} {p : Addr} {xs : List Int} (h : H p = some (.lst (xs.map V.int))) : Dp K H (.ref p) (dI xs) := .lst (sqL_of h) (dpAll_ints xs)
def dLL (rows : List (List Int)) : PyData := .list (rows.map dI)
theorem dpAll_rows {K : PySem.W.Frag} {H : Hp} : ∀ {as : List Addr} {rows : List (List Int)}, LR H as rows → DpAll K H (as.map V.ref) (rows.map dI)
  | _, _, .nil => .nil
  | _, _, .cons r t => .cons (dp_ints r) (dpAll_rows t)
theorem dp_rows {K : PySem.W.Frag} {H : Hp} {p : Addr} {rows : List (List Int)} (h : LL H p rows) : Dp K H (.ref p) (dLL rows) := by
  obtain ⟨as, h1, h2⟩ := h
  exact .lst (sqL_of h1) (dpAll_rows h2)
end
end Rw

namespace Rw
open PySem PySem.Spec PyProof.Rows L2
/-! ### the form of data, == of data -/
structure Shp (n : Nat) (d : PyData) : Prop where
  lay : PyData.canLay0 d = true
  dep : PyData.depth d ≤ n
theorem shp_all {n : Nat} : ∀ {ds : List PyData}, (∀ d ∈ ds, Shp n d) → PyData.canLayAll0 ds = true ∧ PyData.depthAll ds ≤ n
  | [], _ => ⟨by simp [PyData.canLayAll0], by simp [PyData.depthAll]⟩
  | d :: ds, h => by
    obtain ⟨h1, h2⟩ := shp_all (ds := ds) fun x hx => h x (List.mem_cons_of_mem _ hx)
    have h3 := h d List.mem_cons_self
    refine ⟨?_, ?_⟩
    · simp only [PyData.canLayAll0, Bool.and_eq_true]
      exact ⟨h3.lay, h1⟩
    · simp only [PyData.depthAll]
      exact Nat.max_le.mpr ⟨h3.dep, h2⟩
theorem shp_list {n : Nat} {ds : List PyData} (h : ∀ d ∈ ds, Shp n d) : Shp (n + 1) (.list ds) := by
  obtain ⟨h1, h2⟩ := shp_all h
  exact ⟨by simp only [PyData.canLay0]; exact h1, by simp only [PyData.depth]; omega⟩
theorem shp_tup {n : Nat} {ds : List PyData} (h : ∀ d ∈ ds, Shp n d) : Shp (n + 1) (.tuple ds) := by
  obtain ⟨h1, h2⟩ := shp_all h
  exact ⟨by simp only [PyData.canLay0]; exact h1, by simp only [PyData.depth]; omega⟩
theorem shp_int (i : Int) : Shp 0 (.int i) := ⟨by simp only [PyData.canLay0], by simp [PyData.depth]⟩
theorem Shp.mono {n m : Nat} {d : PyData} (h : Shp n d) (e : n ≤ m) : Shp m d := ⟨h.lay, Nat.le_trans h.dep e⟩
theorem Shp.shaped {n : Nat} {d : PyData} (h : Shp n d) (e : n ≤ 64 := by decide) : SeqAt.shaped d = true := by
  unfold SeqAt.shaped
  rw [Bool.and_eq_true]
  exact ⟨h.lay, decide_eq_true (Nat.le_trans h.dep e)⟩
theorem shp_dI (xs : List Int) : Shp 1 (dI xs) := shp_list fun d hd => by
  obtain ⟨i, _, rfl⟩ := List.mem_map.mp hd
  exact shp_int i
theorem shp_dLL (rows : List (List Int)) : Shp 2 (dLL rows) := shp_list fun d hd => by
  obtain ⟨i, _, rfl⟩ := List.mem_map.mp hd
  exact shp_dI i
theorem eqvAll_ints : ∀ xs ys : List Int, PyData.eqvAll (xs.map .int) (ys.map .int) = decide (xs = ys)
  | [], [] => by simp [PyData.eqvAll]
  | [], y :: ys => by simp [PyData.eqvAll]
  | x :: xs, [] => by simp [PyData.eqvAll]
  | x :: xs, y :: ys => by
    rw [List.map_cons, List.map_cons]
    simp only [PyData.eqvAll, PyData.eqv]
    rw [eqvAll_ints xs ys, Bool.eq_iff_iff]
    simp
theorem eqv_dI (xs ys : List Int) : PyData.eqv (dI xs) (dI ys) = decide (xs = ys) := by
  unfold dI
  simp only [PyData.eqv]
  exact eqvAll_ints xs ys
theorem eqvAll_rows : ∀ xs ys : List (List Int), PyData.eqvAll (xs.map dI) (ys.map dI) = decide (xs = ys)
  | [], [] => by simp [PyData.eqvAll]
  | [], y :: ys => by simp [PyData.eqvAll]
  | x :: xs, [] => by simp [PyData.eqvAll]
  | x :: xs, y :: ys => by
    rw [List.map_cons, List.map_cons]
    simp only [PyData.eqvAll]
    rw [eqv_dI, eqvAll_rows xs ys, Bool.eq_iff_iff]
    simp
theorem eqv_dLL (xs ys : List (List Int)) : PyData.eqv (dLL xs) (dLL ys) = decide (xs = ys) := by
  unfold dLL
  simp only [PyData.eqv]
  exact eqvAll_rows xs ys
section
variable {K : PySem.W.Frag} {H : Hp} {Q : VK} {p q : Addr}
theorem w_eqI {xs ys : List Int} (h : H p = some (.lst (xs.map V.int))) (h2 : H q = some (.lst (ys.map V.int))) (k : Q (.bl (decide (xs = ys))) H) : rEqD K (.ref p) (.ref q) H Q :=
  w_eqD (dp_ints h) (dp_ints h2) (shp_dI _).shaped (shp_dI _).shaped (by rw [eqv_dI]; exact k)
theorem w_neI {xs ys : List Int} (h : H p = some (.lst (xs.map V.int))) (h2 : H q = some (.lst (ys.map V.int))) (k : Q (.bl (!decide (xs = ys))) H) : rNeD K (.ref p) (.ref q) H Q :=
  w_neD (dp_ints h) (dp_ints h2) (shp_dI _).shaped (shp_dI _).shaped (by rw [eqv_dI]; exact k)
theorem w_neLL {xs ys : List (List Int)} (h : LL H p xs) (h2 : LL H q ys) (k : Q (.bl (!decide (xs = ys))) H) : rNeD K (.ref p) (.ref q) H Q :=
  w_neD (dp_rows h) (dp_rows h2) (shp_dLL _).shaped (shp_dLL _).shaped (by rw [eqv_dLL]; exact k)
/-- isinstance of what is known -/
theorem w_isiI {i : Int} {n : String} {b : Bool} (e : kitB "int" n = some b) (k : Q (.bl b) H) : rIsi K [.int i, .ty n] H Q := w_isi (.ty n) (.base (.int i)) (kit_ty e) k
theorem w_isiB {c : Bool} {n : String} {b : Bool} (e : kitB "bool" n = some b) (k : Q (.bl b) H) : rIsi K [.bl c, .ty n] H Q := w_isi (.ty n) (.base (.bl c)) (kit_ty e) k
theorem w_isiL {xs : List V} {n : String} {b : Bool} (h : H p = some (.lst xs)) (e : kitB "list" n = some b) (k : Q (.bl b) H) : rIsi K [.ref p, .ty n] H Q := w_isi (.ty n) (.base (.lst h)) (kit_ty e) k
end
end Rw

namespace Rw
open PySem PySem.Spec PyProof.Rows L2
/-! ### set(xs) of a list of ints -/
abbrev freshSet (w : World) : Obj :=
  { cls := .type "set", dict := none, data := .set #[] 0 (.fresh 0 0 (!w.params.followText "set-order")) }
abbrev SetBack (w : World) (st : Shared) (ns : List Int) (r : Value) (s2 : Shared) : Prop :=
  r = .none ∧ ∃ (g : Heap) (tk c : Nat), s2 = { st with heap := g, toks := tk } ∧
    SetR w g st.heap.objs.size (fun j => decide (j ∈ ns)) c ∧ c ≤ ns.length ∧
    ∀ b o, st.heap.get? b = some o → g.get? b = some o
section
variable {P : Program} {w : World} {A : Around} {E : Value → Shared → Prop} {st : Shared}
set_option maxRecDepth 100000 in
set_option maxHeartbeats 3200000 in
theorem set_of_list {l : Addr} {its : Array Value} (ns : List Int) {Q : Value → Shared → Prop} (hh : A.handled = none) (hl : st.heap.IsList l its)
    (hit : IntsAre its.toList ns) (hb : ns.length + 1 < scanBound)
    (fin : ∀ (g : Heap) (tk c : Nat), SetR w g st.heap.objs.size (fun j => decide (j ∈ ns)) c → c ≤ ns.length →
      (∀ b o, st.heap.get? b = some o → g.get? b = some o) → Q (.ref st.heap.objs.size) { st with heap := g, toks := tk }) :
    wpAny (model P w) A (call (.type "set") [.ref l]) Q E st := by
  have hsz : its.size = ns.length := by
    have z := IntsAre.length hit
    rwa [Array.length_toList] at z
  obtain ⟨c0, t0, hm0⟩ := F.called_set.mro
  have q1 := F.called_set.made
  have q2 := F.called_set.sub
  refine wpAny_call (codeAny_of_tree ?_)
  show wpAny _ _
    (callAny (.type "set") _) _ _ _
  refine wpAny_pure ⟨Code.quiet_builtin _ (by decide +kernel),
    codeAny_builtin F.entry_type_call ?_⟩
  rw [Around.under_plain
    (weight_type_call_type "set" [.ref l] []) rfl]
  have q3 := F.called_set.notType
  have q4 := F.called_set.canCreate
  have q5 := F.typeCall_set_1 (.ref l)
  repeat (any_goals (first
    | assumption
    | wp_step))
  refine codeAny_mono (code_set_led1 (.ref l) (E := E)
    (Q₁ := fun ob s1 => ob = .ref st.heap.objs.size ∧ s1 = { st with heap := st.heap.push (freshSet w) })
    ⟨rfl, rfl⟩) fun r s1 hr => ?_
  cases r with
  | error e => exact hr
  | ok fl =>
    cases fl with
    | ret ob =>
      obtain ⟨rfl, rfl⟩ := hr
      have hS : (st.heap.push (freshSet w)).get? st.heap.objs.size = some (freshSet w) := Heap.get?_push_size _ rfl
      have hT : Shared.TypeIs { st with heap := st.heap.push (freshSet w) } (.ref st.heap.objs.size) "set" := ⟨_, hS, rfl⟩
      have q6 := F.called_set.init.lookup
      have q7 := F.called_set.init.bind (.ref st.heap.objs.size)
      repeat (any_goals (first
        | assumption
        | wp_step))
      refine codeAny_mono (codeAny_call_builtin (R := wants (SetBack w st ns) E)
        F.called_set.init.plain F.entry_set_init (check_set_init_1 hT ?_)) fun r2 s2 hr2 => ?_
      · obtain ⟨⟨oc, od, odt, osl⟩, hol, hcl, nl, hdl⟩ := hl
        simp only at hcl hdl
        subst hcl
        subst hdl
        have hol2 := Heap.get?_push_of_some (freshSet w) hol
        have u1 := F.sub_list_set
        have u2 := F.sub_list_frozenset
        have u3 : (Value.type "list" == Value.type "dict") = false := by decide
        have hl1 : (st.heap.push (freshSet w)).IsList l its := ⟨_, hol2, rfl, nl, rfl⟩
        unfold Builtin.«set.__init__» noKeywords Builtin.Frozenset.updateFrom
        generalize hI : pyIter = it0
        wp_walk
        subst hI
        refine wpAny_pyIter_list hl1 (wpAny_bind (wpAny_runValue ?_))
        have hlt : l < st.heap.objs.size := Heap.lt_size hol
        have hh3 : A.in1.in1.in1.handled = none := by simp [hh]
        have ps : (st.heap.push (freshSet w)).objs.size = st.heap.objs.size + 1 := Heap.size_push ..
        have n1 : l ≠ (st.heap.push (freshSet w)).objs.size := by
          rw [ps]
          exact Nat.ne_of_lt (Nat.lt_succ_of_lt hlt)
        have n2 : st.heap.objs.size ∉ [(st.heap.push (freshSet w)).objs.size, l] := by
          rw [ps]
          simp only [List.mem_cons, List.not_mem_nil, or_false, not_or]
          exact ⟨Nat.ne_of_lt (Nat.lt_succ_self _), Nat.ne_of_gt hlt⟩
        have val : ∀ (i : Nat) (v : Value), its[i]? = some v → ∃ k t, ns[i]? = some k ∧ v = .int k t := by
          intro i v hv
          have hi : i < ns.length := by
            rw [← hsz]
            exact (Array.getElem?_eq_some_iff.mp hv).1
          obtain ⟨t, e⟩ := IntsAre.int_at hit i v (by rw [Array.getElem?_toList]; exact hv)
          refine ⟨ns[i], t, List.getElem?_eq_getElem hi, ?_⟩
          rw [e, List.getD_eq_getElem?_getD, List.getElem?_eq_getElem hi]
          rfl
        refine set_update_ints ((Walks.list hh3 _ l n1 its).toS) st.heap.objs.size n2 ns hsz hb val (its.size - 0) 0 _
          (by omega) (Nat.zero_le _) ⟨⟨_, Heap.get?_push_size _ rfl, rfl, rfl⟩, hl1.push _⟩ ?z0 ?z1
        case z0 => exact ⟨0, Nat.le_refl 0, setR_new_at (Heap.get?_push_of_some _ hS)⟩
        case z1 =>
          rintro ⟨g, gs, dr, tk, os⟩ c hm hc hR
          have e1 : gs = st.gens := hm.gens
          have e2 : dr = st.drawn := hm.drawn
          have e3 : os = st.os := hm.os
          subst e1
          subst e2
          subst e3
          show wpAny _ _
            _ _ _ _
          refine wpAny_pure ?_
          show wpAny _ _
            (ret Value.none) _ _ _
          rw [hsz] at hc
          refine wpAny_pure ⟨rfl, g, tk, c, rfl, hR, hc, fun b o e => ?_⟩
          have b0 : b < st.heap.objs.size := Heap.lt_size e
          have b1 : b ≠ (st.heap.push (freshSet w)).objs.size := by
            rw [ps]
            exact Nat.ne_of_lt (Nat.lt_succ_of_lt b0)
          refine hm.heap b o ?_ (Heap.get?_push_of_some _ (Heap.get?_push_of_some _ e))
          simp only [List.mem_cons, List.not_mem_nil, or_false, not_or]
          exact ⟨Nat.ne_of_lt b0, b1⟩
      · cases r2 with
        | error e => exact hr2
        | ok f2 =>
          cases f2 with
          | ret r =>
            obtain ⟨rfl, g, tk, c, rfl, hR, hc, hk⟩ := hr2
            repeat (any_goals (first
              | assumption
              | wp_step))
            exact fin _ _ _ hR hc hk
          | _ => exact hr2.elim
    | _ => exact hr.elim
end
def rSetI (K : PySem.W.Frag) (w : World) : List V → Hp → VK → Prop := fun xs H Q => ∃ (p : Addr) (ns : List Int), xs = [.ref p] ∧ SqL K H p (ns.map V.int) ∧ ns.length ≤ 1000 ∧
  ∀ (a : Addr) (n : Nat), H a = none → n ≤ ns.length → Q (.ref a) (upd H a (SetO w a (fun j => decide (j ∈ ns)) n))
theorem k_setI {X : Cx} (K : PySem.W.Frag) (w : World) (hc : X.calm = true) (e : X.K = K := by rfl) (ew : X.w = w := by rfl) : CallR X (.type "set") (rSetI K w) := by
  subst e
  subst ew
  intro pins s σ H xs us Q I r h
  obtain ⟨p, ns, rfl, hq, hn, q⟩ := h
  obtain ⟨its, rv, pl, hz⟩ := I.list hq
  rw [Vals.ref1 r]
  refine set_of_list ns (I.ok.hd hc) pl.isList (by simpa using rv.ints) (by unfold scanBound; omega) fun g tk c hR hcn hk => ?_
  have fr := I.hok.fresh (Nat.le_refl s.heap.objs.size)
  exact ⟨.ref _, _, I.laid (t' := tk) hk (Nat.le_refl _) (setO_new hR), rfl, q _ c fr hcn⟩
theorem k_sortSet {X : Cx} (w : World) (hc : X.calm = true) (ew : X.w = w := by rfl) : CallR X (.builtin "sorted") (rSortedSet w) := by
  subst ew
  exact cr_sortedSet hc
section
variable {K : PySem.W.Frag} {w : World} {B H : Hp} {M : List (Addr × HO)} {Q : VK} {p : Addr}
theorem w_setI {ns : List Int} (S : Hs B M H) (h : SqL K H p (ns.map V.int)) (hn : ns.length ≤ 1000) (k : ∀ (a : Addr) (n : Nat) (H' : Hp), n ≤ ns.length → Hs B ((a, SetO w a (fun j => decide (j ∈ ns)) n) :: M) H' → Q (.ref a) H') : rSetI K w [.ref p] H Q :=
  ⟨p, ns, rfl, h, hn, fun a n ha hl => k a n _ hl (S.new ha _)⟩
theorem w_sortSet {T : Int → Bool} {n : Nat} (S : Hs B M H) (h : H p = some (SetO w p T n)) (hn : n < 64) (k : ∀ (ns : List Int) (a : Addr) (H' : Hp), ns.Pairwise (· < ·) → (∀ x, x ∈ ns ↔ T x = true) → Hs B ((a, .lst (ns.map V.int)) :: M) H' → Q (.ref a) H') : rSortedSet w [.ref p] H Q :=
  ⟨p, T, n, rfl, h, hn, fun ns a h1 h2 _ ha => k ns a _ h1 h2 (S.new ha _)⟩
end
end Rw

/-! Rw: a caught exception that is kept behind its suite; isinstance and a field of it. -/
namespace Rw
open PySem PySem.Spec PyProof.Rows L2

/-- an error's object that is known of: its class, its dict -/
def ExK (cls : Value) (d : Option Addr) (a : Addr) : HO := .ext fun hp => ∃ (ob : Obj) (fl : Array Value), hp.get? a = some ob ∧ Zc cls d ob ∧ ob.data = .fields fl
section
variable {X : Cx} {pl : List (Addr × Obj)} {sl : L2.St} {H : Hp} {st : Shared} {a : Addr}
theorem exK_ok {P : Program} {w : World} {hp : Heap} {cls : Value} {d : Option Addr} {ob : Obj} {fl : Array Value} (e : hp.get? a = some ob) (z : Zc cls d ob) (hd : ob.data = .fields fl) : ObjOk P w H hp a (ExK cls d a) := by
  refine ⟨⟨ob, fl, e, z, hd⟩, ⟨ob, e⟩, fun _ _ hx st => ?_⟩
  obtain ⟨ob', fl', e', z', hd'⟩ := hx
  exact ⟨ob', fl', st ob' e', z', hd'⟩
/-- what was not there at the entry, and is no frame, cell or pin, may be tracked -/
theorem _root_.L2.Inv.track {o : HO} (I : Inv X pl sl H st) (no : H a = none) (new0 : X.s_0.heap.get? a = none) (noL : a ≠ X.env.locals) (noC : ∀ y c, X.env.cells.lookup y = some c → c ≠ a) (noP : ∀ p ∈ X.pn ++ pl, p.1 ≠ a) (is : ObjOk X.prog X.w (upd H a o) st.heap a o) : Inv X pl sl (upd H a o) st := by
  have up : ∀ {b u}, H b = some u → upd H a o b = some u := fun {b u} e => (upd_ne (ne_of_none e no)).trans e
  have off : ∀ {b}, b ≠ a → H b = none → upd H a o b = none := fun {b} n e => (upd_ne n).trans e
  have U := I.base
  constructor
  · exact I.ok
  · exact I.os
  · exact I.bare
  · constructor
    · exact U.keep
    · exact U.slot
    · intro b ob hb n x
      refine off (fun z => ?_) (U.free b ob hb n x)
      rw [z, new0] at hb
      cases hb
    · exact U.there
    · exact fun b xs hb => up (U.tups b xs hb)
    · exact fun b ob u hb => up (U.frzs b ob u hb)
    · intro b ps hb
      obtain ⟨more, z⟩ := U.tbls b ps hb
      exact ⟨more, up z⟩
  · exact I.loc
  · exact I.cell
  · exact off noL.symm I.free
  · exact fun y c hc => off (noC y c hc) (I.freeC y c hc)
  · intro p hp
    have z := I.pin p hp
    exact ⟨z.1, off (noP p hp) z.2.1, z.2.2⟩
  · intro b u hb
    by_cases eb : b = a
    · subst eb
      cases upd_same.symm.trans hb
      exact is
    · refine (I.hok b u ((upd_ne eb).symm.trans hb)).stay (fun _ _ _ z => z) (fun _ z => up z) fun _ _ z => up z
  · exact I.len
/-- into a suite, nothing pinned besides, and out of it -/
theorem toSuite (I : Inv X pl sl H st) (a : Addr) : Inv (X.suite a (X.pn ++ pl)) [] sl H st := by
  obtain ⟨i1, i2, i3, i4, i5, i6, i7, i8, i9, i10, i11⟩ := I
  exact ⟨i1.suite _ _, i2, i3, i4, i5, i6, i7, i8, by simpa using i9, i10, i11⟩
theorem ofSuite {more : List (Addr × Obj)} (ok : X.Ok) (I : Inv (X.suite a (X.pn ++ pl)) more sl H st) : Inv X pl sl H st := by
  obtain ⟨_, i2, i3, i4, i5, i6, i7, i8, i9, i10, i11⟩ := I
  exact ⟨ok, i2, i3, i4, i5, i6, i7, i8, fun p hp => i9 p (List.mem_append.mpr (.inl hp)), i10, i11⟩
end

/-! ### an error that has come down to a try -/
/-- the error a flies over the heap hp; su: the state without it, sv: the one with it -/
structure Down (X : Cx) (pl : List (Addr × Obj)) (sl : L2.St) (H : Hp) (B : Heap) (a : Addr) (cls : Value) (d : Option Addr) (su sv : Shared) (hp : Heap) : Prop where
  inv : Inv X pl sl H su
  old : ∀ b o, su.heap.get? b = some o → b ∉ frs X.stack → B.get? b = some o
  way : su.heap.UpToSlots hp
  os : sv.os = su.os
  bare : AllBare sv.gens
  fly : HandSPX.FlyingZ B (X.env :: X.outer) a (Zc cls d) hp
  out : H a = none
namespace Down
variable {X : Cx} {pl : List (Addr × Obj)} {sl : L2.St} {H : Hp} {B hp : Heap} {a : Addr} {cls : Value} {d : Option Addr} {su sv : Shared} (D : Down X pl sl H B a cls d su sv hp)
include D
theorem now : Inv X pl sl H { sv with heap := hp } := Inv.landed (s' := { sv with heap := hp }) D.inv D.old D.fly.1 D.way D.os D.bare
theorem nofr : a ∉ frs (X.env :: X.outer) := by
  obtain ⟨ob, fl, e1, _, e2⟩ := D.fly.there
  intro hm
  obtain ⟨_, ob', e3, hno⟩ := D.fly.2.2.1.mem hm
  cases e1.symm.trans e3
  exact hno _ e2
theorem noL (hf : X.env.frame = some X.env.locals) : a ≠ X.env.locals := fun z => D.nofr (by
  rw [z]
  exact List.mem_filterMap.mpr ⟨X.env, List.mem_cons_self, hf⟩)
theorem noF : a ∉ X.fs := by
  intro hm
  obtain ⟨en, he, z⟩ := List.mem_filterMap.mp hm
  exact D.nofr (List.mem_filterMap.mpr ⟨en, .tail _ he, z⟩)
/-- it was not there before it was raised -/
theorem new (hs : X.stack = X.env :: X.outer) : su.heap.get? a = none := by
  match e : su.heap.get? a with
  | none => rfl
  | some o => exact nomatch (D.old a o e (hs ▸ D.nofr)).symm.trans D.fly.2.1
theorem new0 (hx : X.ex = []) (hs : X.stack = X.env :: X.outer) : X.s_0.heap.get? a = none := by
  match e : X.s_0.heap.get? a with
  | none => rfl
  | some o =>
    obtain ⟨o', z⟩ := D.inv.base.there a o e (by simp [hx])
    exact nomatch z.symm.trans (D.new hs)
/-- tracked, within the suite -/
theorem inSuite (hx : X.ex = []) (hs : X.stack = X.env :: X.outer) (hf : X.env.frame = some X.env.locals) : Inv (X.suite a (X.pn ++ pl)) [] sl (upd H a (ExK cls d a)) { sv with heap := hp } := by
  obtain ⟨ob, fl, e1, e2, e3⟩ := D.fly.there
  have none_ := D.new hs
  refine toSuite (D.now.track D.out (D.new0 hx hs) (D.noL hf) (fun y c hc z => ?_) (fun p hp' z => ?_) (exK_ok e1 e2 e3)) a
  · obtain ⟨_, o, ho, _⟩ := D.inv.cell y c hc
    rw [z] at ho
    exact nomatch ho.symm.trans none_
  · have ho := (D.inv.pin p hp').1
    rw [z] at ho
    exact nomatch ho.symm.trans none_
/-- the clause's class is read, and asked whether it is the error's -/
theorem asks {x : Str} {c : Value} {np : Pos} {t : Bool} (hf : X.env.frame = some X.env.locals) (hc : Names X x c) (m : PySem.W.exmOne X.K cls c = some t) {Q E : Value → Shared → Prop} (q : Q c { sv with heap := hp }) :
    wpAny (model X.prog X.w) (X.A.mark (some (.ref a))) (eval (.Name x np) X.env) Q E { sv with heap := hp } := by
  obtain ⟨ob, fl, e1, _, e3⟩ := D.fly.there
  have S := D.now.suite e1 e3 D.out (D.noL hf) D.noF
  rcases hc with ⟨h1, h2, h3 | ⟨h3, h4, h5⟩⟩
  · exact ld_glob (X := X.suite a _) S h1 h3 q h2
  · exact ld_blt (X := X.suite a _) S h1 h3 h4 q h5 h2
theorem looks {c : Value} {t : Bool} (m : PySem.W.exmOne X.K cls c = some t) : PySem.W.Looks (model X.prog X.w) hp (excMatches (.ref a) c) t := by
  obtain ⟨ob, fl, e1, e2, _⟩ := D.fly.there
  exact PySem.W.exm_one D.now.kIn (fun _ _ _ _ k r => wpAny_typeOf_ref (k a ob e1) (by rw [e2.1]; exact r)) m
end Down

/-- what the clause 'except x as n' wishes of an error of the body: slot i is n's; the error is tracked from then on -/
def wAsT (K : PySem.W.Frag) (c : Value) (i : Nat) (ts : Addr → TS) (Wout : WX) (En : Ends) : WX := fun cls d sl H =>
  ∃ t, PySem.W.exmOne K cls c = some t ∧ (t = false → Wout cls d sl H) ∧ (t = true → ∀ a, H a = none → ts a ⟨fun s1 H1 => En.nx (s1.set i none) H1, En.rt, fun s1 H1 => En.bk (s1.set i none) H1, fun s1 H1 => En.ct (s1.set i none) H1⟩ (sl.set i (some (.ref a))) (upd H a (ExK cls d a)))
section
variable {X : Cx} {x n : Str} {c : Value} {i : Nat} {body suite : List Stmt} {b₀ : Stmt} {np pos pos' : Pos} {tb : WX → TS} {ts : Addr → TS} {Wout : WX}
theorem ps_try_asT (hx : X.ex = []) (hs : X.stack = X.env :: X.outer) (hf : X.env.frame = some X.env.locals) (hN : X.N.Nodup) (hi : X.N[i]? = some n) (hln : X.env.kindOf n = some .local) (hc : Names X x c) (tk : Takes X Wout)
    (hb : ∀ W pn xe, Takes (X.tr pn xe) W → PassesOwn (model X.prog X.w) X.A X.env xe → PSs (X.tr pn xe) body (tb W)) (hsu : ∀ a pn, PSs (X.suite a pn) (b₀ :: suite) (ts a)) :
    PS X (.Try body [.ExceptHandler (some (.Name x np)) (some n) (b₀ :: suite) pos'] [] [] pos) (fun En sl H => tb (wAsT X.K c i ts Wout En) En sl H) := by
  constructor
  intro pl st sl H En I0 q0
  have okX := I0.ok
  apply wpAny_Try_except
  apply wpAny_mono ((hb (wAsT X.K c i ts Wout En) (X.pn ++ pl) _ ?tk PassesOwn.looking).run [] st sl H En (I0.toTry _) q0) ?fine ?same
  case same => exact fun _ _ z => z
  case fine =>
    intro fl s1 z
    cases fl with
    | next => exact wpAny_execs_nil (let ⟨s2, H2, J, r⟩ := z; ⟨s2, H2, J.ofTry okX, r⟩)
    | ret u => exact let ⟨v, s2, H2, J, r, k⟩ := z; ⟨v, s2, H2, J.ofTry okX, r, k⟩
    | brk => exact let ⟨s2, H2, J, r⟩ := z; ⟨s2, H2, J.ofTry okX, r⟩
    | cont => exact let ⟨s2, H2, J, r⟩ := z; ⟨s2, H2, J.ofTry okX, r⟩
  case tk =>
    rintro _ sv ⟨a, B, su, pl', s0, H0, cls, d, rfl, J, old, way, sky, out, hos, bare, t, ht, no, yes⟩
    have J := J.ofTry okX
    refine Sky.land Zc.steady (hs ▸ okX.frames) hf (hs ▸ sky) fun h1 fly1 way1 => ?_
    have D1 : Down X pl s0 H0 B a cls d su sv h1 := ⟨J, old, way.trans way1, hos, bare, fly1, out⟩
    refine wpAny_handleBy_cons (codeAny_handlers_test (D1.asks hf hc ht ((D1.looks ht).here ?_))) (fun z => nomatch z)
    cases t with
    | false =>
      obtain ⟨_, _, _, ob, fs, tr, _, _, e1, _, e2, e3, _⟩ := id D1.fly
      have leave : wpAny (model X.prog X.w) X.A (setFlight (.ref a) (some X.env.locals)) (fun _ s4 => wpAny (model X.prog X.w) X.A (throw (.ref a)) (SP X pl En) X.xe s4) X.xe { sv with heap := h1 } :=
        HandSPX.setFlight_upZ D1.fly fun h2 held way2 => wpAny_throw (tk _ _ ⟨a, B, su, pl, s0, H0, cls, d, rfl, J, old, D1.way.trans way2, .inr (.inr (hs ▸ held)), out, hos, bare, no rfl⟩)
      rw [← hf] at leave
      apply wpAny_handleBy_nil
      unfold PySem.passOn
      refine wpAny_bind (wpAny_field e1 e2 e3 ?_)
      rw [if_neg (by simp : ¬ ((Value.ref tr == Value.none) = true))]
      first
        | exact wpAny_bind leave
        | exact wpAny_bind (wpAny_pure (wpAny_bind leave))
    | true =>
      apply codeAny_handlers_suite_as
      refine HandSPX.lands_againZ D1.fly fun h2 fly2 way2 => ?_
      have D2 : Down X pl s0 H0 B a cls d su sv h2 := ⟨J, old, D1.way.trans way2, hos, bare, fly2, out⟩
      refine store_ok (X := X.suite a (X.pn ++ pl)) (v := .ref a) (D2.inSuite hx hs hf) hN hi (.inl hln) rfl (fun s3 I3 => ?_) (.inr hln)
      refine wpAny_mono ((hsu a (X.pn ++ pl)).run [] s3 _ _ _ I3 (yes rfl a out)) (fun fl s4 z => ?_) fun _ _ z => z.elim
      have unname : ∀ {s5 H5 R}, Inv (X.suite a (X.pn ++ pl)) [] s5 H5 s4 → (∀ s6, Inv X pl (s5.set i none) H5 s6 → R s6) → wpAny (model X.prog X.w) X.A (do bindName X.env n .none; unbindBehindTheSuite X.env n pos') (fun _ => R) X.xe s4 :=
        fun I5 k => gone_ok (ofSuite okX I5) hN hi hln k
      cases fl with
      | next => exact let ⟨_, _, I5, k⟩ := z; unname I5 fun _ I6 => ⟨_, _, I6, k⟩
      | ret u => exact let ⟨_, _, _, I5, r, k⟩ := z; unname I5 fun _ I6 => ⟨_, _, _, I6, r, k⟩
      | brk => exact let ⟨_, _, I5, k⟩ := z; unname I5 fun _ I6 => ⟨_, _, I6, k⟩
      | cont => exact let ⟨_, _, I5, k⟩ := z; unname I5 fun _ I6 => ⟨_, _, I6, k⟩
end

/-- isinstance(x, c), x an error that is tracked -/
def rIsK (K : PySem.W.Frag) : List V → Hp → VK → Prop := fun xs H Q => ∃ (a D : Addr) (d : Option Addr) (c : V) (cv : Value) (b : Bool), xs = [.ref a, c] ∧ H a = some (ExK (.ref D) d a) ∧ (∀ dd, d = some dd → ∃ fs, H dd = some (.xd fs)) ∧ ExcC K D ∧ (∀ u, RelV c u → u = cv) ∧ PySem.W.kitOne K (.ref D) cv = some b ∧ Q (.bl b) H
section
variable {X : Cx} {pl : List (Addr × Obj)} {sl : L2.St} {H : Hp} {st : Shared} {a D : Addr} {d : Option Addr}
theorem call_isK : CallR X (.builtin "isinstance") (rIsK X.K) := by
  intro pl st sl H xs us Q I rel ask
  obtain ⟨a, D, d, c, cv, b, rfl, ha, hdd, C, hcv, e, q⟩ := ask
  match rel with
  | .cons ra (.cons rc .nil) =>
    cases ra
    cases hcv _ rc
    obtain ⟨⟨ob, fl, g1, g2, g3⟩, _⟩ := I.hok a _ ha
    have inst : ∃ od, PySem.W.InstAt st.heap a ob D od := by
      cases d with
      | none => exact ⟨none, g1, g2.1, by unfold PySem.W.notCls; rw [g3] <;> rfl, by rw [g2.2]; trivial⟩
      | some dd =>
        obtain ⟨fs, hf⟩ := hdd dd rfl
        obtain ⟨mA, ns, _⟩ := I.hok dd _ hf
        obtain ⟨od, g4, _⟩ := lookIn_ns ns
        exact ⟨some od, g1, g2.1, by unfold PySem.W.notCls; rw [g3] <;> rfl, by rw [g2.2]; exact g4⟩
    obtain ⟨od, J⟩ := inst
    obtain ⟨_, cl, _⟩ := PySem.W.any_some C.hd
    exact PySem.W.kia_one (PySem.W.kitx_exc (cl ▸ rfl) C.hg C.hk C.hs C.ha C.hn C.ht C.hm) I.kIn J e (fun z => nomatch z) fun tk => ⟨.bl b, H, I.kept (t' := tk) fun _ _ z => z, rfl, q⟩
/-- x.f, x an error with a dict that is tracked -/
def tXfK (K : PySem.W.Frag) (f : Str) (te : TE) : TE := fun sl H Q => te sl H fun x H1 => ∃ (a C dd : Addr) (fs : List (Str × V)) (v : V), x = .ref a ∧ H1 a = some (ExK (.ref C) (some dd) a) ∧ XfC K C ∧ PySem.W.findIn K (.ref C) f = some none ∧ H1 dd = some (.xd fs) ∧ fs.lookup f = some v ∧ Q v H1
theorem pe_xfK {e : Expr} {te : TE} {pos : Pos} {n : Str} (he : PE X e te) (hb : attributeBase e n X.env (eval e X.env) = eval e X.env := by rfl) : PE X (.Attribute e n pos) (tXfK X.K n te) := by
  constructor
  intro pl st sl H Q I q
  refine attr_of hb (thn (he.run pl st sl H _ I q) fun u s1 z => ?_)
  obtain ⟨_, H1, I1, rel, a, C, dd, fs, v, rfl, ha, T, none_, hdd, at_, q1⟩ := z
  cases rel
  obtain ⟨⟨ob, fl, g1, g2, g3⟩, _⟩ := I1.hok a _ ha
  obtain ⟨mA, ns, rels⟩ := I1.hok dd _ hdd
  obtain ⟨od, g4, g5⟩ := lookIn_ns ns
  have rn := rels n
  rw [at_] at rn
  obtain ⟨w, hw, rw_⟩ := RelO.some_of rn
  have J : PySem.W.InstAt s1.heap a ob C (some od) := ⟨g1, g2.1, by unfold PySem.W.notCls; rw [g3] <;> rfl, by rw [g2.2]; exact g4⟩
  exact HandSPX.exc_get I1.kIn J T.ga T.gg T.exC (PySem.W.findObj_own T.hdC none_ rfl (by rw [g5, hw])) (handed_of rw_) ⟨v, H1, I1.tok _, rw_, q1⟩
end

/-! ### promises of what may raise -/
structure CalX (P : Program) (w : World) (K : PySem.W.Frag) (mg : Str → Option Value) (base : Heap) (x : Str) (k : Nat) (ps : List Str) (sp : Sp) : Prop where
  ex : ∃ (f : Addr) (fd : FuncData), mg x = some (.ref f) ∧ PySem.W.keepIn K (.ref f) = true ∧ Binds K fd ps [] ∧ FnOk P w K mg base (L2.CX P w) k f fd ps sp ∧ ∃ (oc : Value) (od : Option Addr) (osl : Array (Option Value)), K.lookup f = some ⟨oc, od, .func fd, osl⟩
structure CalMX (P : Program) (w : World) (K : PySem.W.Frag) (mg : Str → Option Value) (base : Heap) (C : Addr) (m : Str) (k : Nat) (ps : List Str) (sp : Sp) : Prop where
  ex : ∃ (f : Addr) (fd : FuncData), Meth K C m f ∧ Binds K fd ps [] ∧ FnOk P w K mg base (L2.CX P w) k f fd ps sp
structure CalCX (P : Program) (w : World) (K : PySem.W.Frag) (mg : Str → Option Value) (base : Heap) (C : Addr) (x : Str) (k : Nat) (ps : List Str) (sp : Sp) : Prop where
  ex : ∃ (f : Addr) (fd : FuncData), mg x = some (.ref C) ∧ Mk K C f ∧ Binds K fd ps [] ∧ FnOk P w K mg base (L2.CX P w) k f fd ps sp
section
variable {P : Program} {w : World} {K : PySem.W.Frag} {mg : Str → Option Value} {base : Heap} {C : Addr} {x m qual : Str} {st : Stmt} {k : Nat} {ps N : List Str} {sp : Sp}
theorem Glo.calX (G : Glo K mg x st) (S : FnScope N ps (defScope st)) (bn : ∀ (kV doc pm : Value) (an : Option Addr) (cdv ct : Value) (us : List Value), us.length = ps.length → bindArgs (PySem.W.fnOf x x (defArgs st) (defBody st) (defScope st) .none kV doc pm an cdv ct) ⟨us, []⟩ = pure (ps.zip us))
    (len : ∀ (vs : List V) (H : Hp) (Q : VK) (E : XK), sp vs H Q E → vs.length = ps.length)
    (hbody : ∀ (f : Addr) (cdv : Value) (A : Around) (outer : List Env) (s : Shared) (H : Hp) (vs : List V) (Q : VK) (E : XK), Room k (A.deeper (envOfC x (defScope st) s.heap.objs.size f cdv)) → sp vs H Q E →
      ∃ t, PSs (cxOf (L2.CX P w) P w K mg base N x (defScope st) f cdv A outer s H E) (defBody st) t ∧ t { nx := fun _ H' => Q .non H', rt := Q } (start N vs) H) : CalX P w K mg base x (k + 1) ps sp := by
  obtain ⟨f, fd, h1, F⟩ := G.ex
  refine ⟨f, fd, h1, F.kp, F.binds bn, F.okX S len (fun cdv A outer s H vs Q E hr h => hbody f cdv A outer s H vs Q E hr h), ?_⟩
  obtain ⟨oc, od, kV, doc, pm, an, cdv, ct, osl, _, lk, _⟩ := F.ex
  exact ⟨oc, od, osl, lk⟩
theorem GloM.calX (G : GloM K C m qual st) (S : FnScope N ps (defScope st)) (bn : ∀ (kV doc pm : Value) (an : Option Addr) (cdv ct : Value) (us : List Value), us.length = ps.length → bindArgs (PySem.W.fnOf m qual (defArgs st) (defBody st) (defScope st) .none kV doc pm an cdv ct) ⟨us, []⟩ = pure (ps.zip us))
    (len : ∀ (vs : List V) (H : Hp) (Q : VK) (E : XK), sp vs H Q E → vs.length = ps.length)
    (hbody : ∀ (f : Addr) (cdv : Value) (A : Around) (outer : List Env) (s : Shared) (H : Hp) (vs : List V) (Q : VK) (E : XK), Room k (A.deeper (envOfC qual (defScope st) s.heap.objs.size f cdv)) → sp vs H Q E →
      ∃ t, PSs (cxOf (L2.CX P w) P w K mg base N qual (defScope st) f cdv A outer s H E) (defBody st) t ∧ t { nx := fun _ H' => Q .non H', rt := Q } (start N vs) H) : CalMX P w K mg base C m (k + 1) ps sp := by
  obtain ⟨f, fd, h1, F⟩ := G.ex
  exact ⟨f, fd, h1, F.binds bn, F.okX S len (fun cdv A outer s H vs Q E hr h => hbody f cdv A outer s H vs Q E hr h)⟩
theorem GloC.calX (G : GloC K mg C x qual st) (S : FnScope N ps (defScope st)) (bn : ∀ (kV doc pm : Value) (an : Option Addr) (cdv ct : Value) (us : List Value), us.length = ps.length → bindArgs (PySem.W.fnOf "__init__" qual (defArgs st) (defBody st) (defScope st) .none kV doc pm an cdv ct) ⟨us, []⟩ = pure (ps.zip us))
    (len : ∀ (vs : List V) (H : Hp) (Q : VK) (E : XK), sp vs H Q E → vs.length = ps.length)
    (hbody : ∀ (f : Addr) (cdv : Value) (A : Around) (outer : List Env) (s : Shared) (H : Hp) (vs : List V) (Q : VK) (E : XK), Room k (A.deeper (envOfC qual (defScope st) s.heap.objs.size f cdv)) → sp vs H Q E →
      ∃ t, PSs (cxOf (L2.CX P w) P w K mg base N qual (defScope st) f cdv A outer s H E) (defBody st) t ∧ t { nx := fun _ H' => Q .non H', rt := Q } (start N vs) H) : CalCX P w K mg base C x (k + 1) ps sp := by
  obtain ⟨f, fd, h1, h2, F⟩ := G.ex
  exact ⟨f, fd, h1, h2, F.binds bn, F.okX S len (fun cdv A outer s H vs Q E hr h => hbody f cdv A outer s H vs Q E hr h)⟩
end
section
variable {X : Cx} {C : Addr} {x m : Str} {k : Nat} {ps : List Str} {sp : Sp} {E : XK} {W : WX} {o e : Expr} {es : List Expr} {ta : TE} {t : TA} {p apos pos : Pos}
theorem pe_calX (C : CalX X.prog X.w X.K X.mg X.base x k ps sp) (hr : Room k X.A) (hg : Gl X x) (tk : Takes X W) (hW : ∀ cls d σ H, E cls d H → W cls d σ H) (ha : PA X (e :: es) t) (hdb : (x == ("__debug__" : Str)) = false := by decide) (he : starEach (e :: es) X.env = (false, eval e X.env) :: starEach es X.env := by rfl) (hpl : (backTo pos (starEach es X.env)).any (·.1) = false := by rfl) : PE X (.Call (.Name x p) (e :: es) [] pos) (tCall sp [] E t) := by
  obtain ⟨f, fd, h1, h2, h3, h4, _⟩ := C.ex
  exact pe_call h4 hr hg h1 h2 h3 .nil (passes_call tk hW) ha hdb he hpl
theorem pe_calMX {pl : Sem Bool} (he : PE X o ta) (T : Cls X.K C) (F : CalMX X.prog X.w X.K X.mg X.base C m k ps sp) (hr : Room k X.A) (tk : Takes X W) (hW : ∀ cls d σ H, E cls d H → W cls d σ H) (ha : PA X (e :: es) t)
    (star : starEach (e :: es) X.env = (false, eval e X.env) :: starEach es X.env := by rfl) (plain : (backTo pos (starEach es X.env)).any (·.1) = false := by rfl) (ht : eval (.Call (.Attribute o m apos) (e :: es) [] pos) X.env = (do
      let w ← eval o X.env
      standAt apos.atName
      let (f, one) ← holding [w] (getMethod w m pl)
      callWith pos f one (backTo pos (starEach (e :: es) X.env)) (backToKw pos (keywordEach [] X.env))) := by rfl) :
    PE X (.Call (.Attribute o m apos) (e :: es) [] pos) (tMeth C m sp [] E ta t) := by
  obtain ⟨f, fd, h1, h2, h3⟩ := F.ex
  exact pe_meth he T h1 h3 hr h2 .nil (passes_call tk hW) ha star plain ht
theorem pe_calM0X {pl : Sem Bool} (he : PE X o ta) (T : Cls X.K C) (F : CalMX X.prog X.w X.K X.mg X.base C m k ps sp) (hr : Room k X.A) (tk : Takes X W) (hW : ∀ cls d σ H, E cls d H → W cls d σ H)
    (bare : eval (.Call (.Attribute o m apos) [] [] pos) X.env = (do
      let w ← eval o X.env
      standAt apos.atName
      let (f, one) ← holding [w] (getMethod w m pl)
      callWith pos f one (backTo pos (starEach [] X.env)) (backToKw pos (keywordEach [] X.env))) := by rfl) :
    PE X (.Call (.Attribute o m apos) [] [] pos) (tMeth C m sp [] E ta tNil) := by
  obtain ⟨f, fd, h1, h2, h3⟩ := F.ex
  exact pe_meth0 he T h1 h3 hr h2 .nil (passes_call tk hW) bare
theorem pe_mkX (F : CalCX X.prog X.w X.K X.mg X.base C x k ps sp) (hr : Room (k + 1) X.A) (hg : Gl X x) (tk : Takes X W) (hW : ∀ cls d σ H, E cls d H → W cls d σ H) (ha : PA X (e :: es) t) (hdb : (x == ("__debug__" : Str)) = false := by decide) (he : starEach (e :: es) X.env = (false, eval e X.env) :: starEach es X.env := by rfl) (hpl : (backTo pos (starEach es X.env)).any (·.1) = false := by rfl) :
    PE X (.Call (.Name x p) (e :: es) [] pos) (tMake C sp [] E t) := by
  obtain ⟨f, fd, h1, h2, h3, h4⟩ := F.ex
  exact pe_make h2 h4 hr hg h1 h3 .nil (passes_call tk hW) ha hdb he hpl
end

/-! ### own errors -/
/-- what is wanted of an own error class without own __init__ -/
structure ErrT (K : PySem.W.Frag) (mg : Str → Option Value) (x : Str) (C : Addr) : Prop where
  gP : mg x = some (.ref C)
  xP : PySem.W.excIn K C [.type "ValueError", .type "Exception", .type "BaseException", .type "object"] "ValueError.__new__" = true
  kP : PySem.W.keepIn K (.ref C) = true
  bP : PySem.W.subIn K (.ref C) (.type "BaseException") = some true
  tP : PySem.W.typeIn K (.ref C) = some (.type "type")
section
variable {X : Cx} {C : Addr} {x : Str} {e : Expr} {te : TE} {p pos : Pos}
/-- X(e), raised -/
theorem pmk_ownE (T : ErrT X.K X.mg x C) (he : PE X e te) (hg : Gl X x) (hs : starEach [e] X.env = (false, eval e X.env) :: starEach [] X.env := by rfl) (hdb : (x == ("__debug__" : Str)) = false := by decide) :
    PMk X (.Call (.Name x p) [e] [] pos) (fun σ H Q => te σ H fun _ H1 => Q (.ref C) none H1) := by
  intro pl st sl H Q I q
  let one : List V → Hp → Prop := fun
    | [_], H1 => Q (.ref C) none H1
    | _, _ => False
  refine wpAny_Call_Name_kw (ld_glob I hg T.gP (PySem.W.callWith_K (h₀ := X.base) I.ok.mod.kin T.kP (thn ((pa_cons (hs := hs) he pa_nil).run pos pl st sl H one I q) fun us s1 z => ?_) hs (by rfl)) hdb)
  obtain ⟨vs, H1, I1, rel, q1⟩ := z
  refine ⟨I1.kIn, ?_⟩
  match rel, q1 with
  | .cons _ .nil, q1 =>
    obtain ⟨_, _, _, _, _, _, _, _, _, _, _, _, _, _, _, _, _, hC, hN, hni, tail⟩ := exc_obj I1.kIn T.xP
    show wpAny _ _ (call (.ref C) [_]) _ _ _
    refine wpAny_call_exc_subT PySem.F.excBase_ValueError tail hC hN hni (fun _ _ hm => mk_of I1 hm (raises_own T.bP T.tP) q1 (I1.hok.gone hm.new)) ?_
    simp [sizeLine_eq]
/-- raise X(e) -/
theorem ps_raiseE {W : WX} {pos' : Pos} (T : ErrT X.K X.mg x C) (hc : X.calm = true) (tk : Takes X W) (he : PE X e te) (hg : Gl X x) (hs : starEach [e] X.env = (false, eval e X.env) :: starEach [] X.env := by rfl) (hdb : (x == ("__debug__" : Str)) = false := by decide) :
    PS X (.Raise (some (.Call (.Name x p) [e] [] pos)) none pos') (fun _ σ H => te σ H fun _ H1 => W (.ref C) none σ H1) := ps_raise hc tk (pmk_ownE T he hg hs hdb)
end

/-! ### f-strings of ints -/
section
variable {σ : L2.St} {H : Hp} {acc s : Str} {ts : List TE} {te : TE} {Q : Str → Hp → Prop} {Q' : VK} {i : Int}
theorem w_jsN (k : Q acc H) : tJs [] acc σ H Q := k
theorem w_jsC (n : Nat) (hn : acc.length ≤ n) (hs : s.length + n ≤ 10000000 := by decide +kernel) (k : ∀ acc' : Str, acc'.length ≤ s.length + n → tJs ts acc' σ H Q) : tJs (tC (.str s) :: ts) acc σ H Q := by
  have e : (acc ++ s).length ≤ s.length + n := by rw [PySem.Str.length_append]; omega
  exact ⟨s, rfl, by rw [sizeLine_eq]; omega, k _ e⟩
theorem w_jsI (n : Nat) (hn : acc.length ≤ n) (hs : n ≤ 10000000) (k : te σ H fun x H1 => ∃ i, x = .int i ∧ i.natAbs < 1900 ∧ ∀ acc' : Str, acc'.length ≤ n + 1921 → tJs ts acc' σ H1 Q)
    (mono : ∀ Q1 Q2 : VK, (∀ x H1, Q1 x H1 → Q2 x H1) → te σ H Q1 → te σ H Q2) : tJs (tFmt te :: ts) acc σ H Q := by
  refine mono _ _ (fun x H1 h => ?_) k
  obtain ⟨i, rfl, hi, hk⟩ := h
  have hl : i.natAbs.log2 < 1920 := Nat.lt_of_le_of_lt (Nat.log2_le_self _) (by omega)
  have e := PyProof.Rows.int_text_len_1921 hl
  have e2 : (acc ++ PySem.Str.ofString (toString i)).length ≤ n + 1921 := by rw [PySem.Str.length_append]; omega
  exact .inr ⟨i, rfl, hl, _, rfl, by rw [sizeLine_eq]; omega, hk _ e2⟩
/-- .. behind the walk to the int -/
theorem w_fmtI (n : Nat) (hn : acc.length ≤ n) (hs : n ≤ 10000000) (hi : i.natAbs < 1900) (k : ∀ acc' : Str, acc'.length ≤ n + 1921 → tJs ts acc' σ H Q) :
    (∃ y : Str, V.int i = .str y ∧ y.length ≤ sizeLine ∧ ∃ y' : Str, V.str y = .str y' ∧ (acc ++ y').length ≤ sizeLine ∧ tJs ts (acc ++ y') σ H Q) ∨ ∃ j : Int, V.int i = .int j ∧ j.natAbs.log2 < 1920 ∧ ∃ y' : Str, V.str (PySem.Str.ofString (toString j)) = .str y' ∧ (acc ++ y').length ≤ sizeLine ∧ tJs ts (acc ++ y') σ H Q := by
  have hl : i.natAbs.log2 < 1920 := Nat.lt_of_le_of_lt (Nat.log2_le_self _) (by omega)
  have e := PyProof.Rows.int_text_len_1921 hl
  have e2 : (acc ++ PySem.Str.ofString (toString i)).length ≤ n + 1921 := by rw [PySem.Str.length_append]; omega
  exact .inr ⟨i, rfl, hl, _, rfl, by rw [sizeLine_eq]; omega, k _ e2⟩
theorem w_fmt (k : te σ H fun x H1 => (∃ y : Str, x = .str y ∧ y.length ≤ sizeLine ∧ Q' (.str y) H1) ∨ ∃ i : Int, x = .int i ∧ i.natAbs.log2 < 1920 ∧ Q' (.str (PySem.Str.ofString (toString i))) H1) : tFmt te σ H Q' := k
theorem w_jsF (k : te σ H fun x H1 => (∃ y : Str, x = .str y ∧ y.length ≤ sizeLine ∧ ∃ y' : Str, V.str y = .str y' ∧ (acc ++ y').length ≤ sizeLine ∧ tJs ts (acc ++ y') σ H1 Q) ∨ ∃ i : Int, x = .int i ∧ i.natAbs.log2 < 1920 ∧ ∃ y' : Str, V.str (PySem.Str.ofString (toString i)) = .str y' ∧ (acc ++ y').length ≤ sizeLine ∧ tJs ts (acc ++ y') σ H1 Q) : tJs (tFmt te :: ts) acc σ H Q := k
end

/-! ### calls that may raise, walked -/
section
variable {K : PySem.W.Frag} {σ : L2.St} {H : Hp} {Q : VK} {E : XK} {ta : TE} {t : TA} {B : Hp} {M : List (Addr × HO)} {p : Addr} {C : Addr} {m : Str} {sp : Sp}
theorem w_callX (k : t σ H fun vs H1 => sp (vs ++ []) H1 Q E) : tCall sp [] E t σ H Q := k
def MethXX (C : Addr) (m : Str) (sp : Sp) (E : XK) (y : V) (t : TA) (σ : L2.St) (H1 : Hp) (Q : VK) : Prop := ∃ p dx fs, y = .ref p ∧ H1 p = some (.ins C dx fs) ∧ fs.lookup m = none ∧ t σ H1 fun vs H2 => sp (y :: (vs ++ [])) H2 Q E
theorem w_methX (k : ta σ H fun x H1 => MethXX C m sp E x t σ H1 Q) : tMeth C m sp [] E ta t σ H Q := k
theorem w_methXE {dx : Addr} {fs : List (Str × V)} (h : H p = some (.ins C dx fs)) (hm : fs.lookup m = none) (k : t σ H fun vs H2 => sp (.ref p :: (vs ++ [])) H2 Q E) : MethXX C m sp E (.ref p) t σ H Q := ⟨p, dx, fs, rfl, h, hm, k⟩
def MakeXX (C : Addr) (sp : Sp) (E : XK) (vs : List V) (H : Hp) (Q : VK) : Prop := ∀ x dx, H x = none → H dx = none → dx ≠ x → sp (.ref x :: (vs ++ [])) (upd (upd H dx (.own x)) x (.ins C dx [])) (fun v H2 => v = .non ∧ Q (.ref x) H2) E
theorem w_makeX (k : t σ H fun vs H1 => MakeXX C sp E vs H1 Q) : tMake C sp [] E t σ H Q := k
theorem w_makeXE {vs : List V} (S : Hs B M H) (k : ∀ x dx H', Hs B ((x, .ins C dx []) :: (dx, .own x) :: M) H' → sp (.ref x :: (vs ++ [])) H' (fun v H2 => v = .non ∧ Q (.ref x) H2) E) : MakeXX C sp E vs H Q := fun x dx hx hd ne =>
  k x dx _ ((S.new hd (.own x)).new (by rw [upd_ne ne.symm]; exact hx) _)
end

section
variable {X : Cx}
theorem k_isK (K : PySem.W.Frag) (e : X.K = K := by rfl) : CallR X (.builtin "isinstance") (rIsK K) := by subst e; exact call_isK
theorem pe_xfKK (K : PySem.W.Frag) {e : Expr} {te : TE} {pos : Pos} {n : Str} (he : PE X e te) (hK : X.K = K := by rfl) (hb : attributeBase e n X.env (eval e X.env) = eval e X.env := by rfl) : PE X (.Attribute e n pos) (tXfK K n te) := by subst hK; exact pe_xfK he hb
/-- the slots' number is known where an error is caught -/
theorem takes_len {W : WX} (tk : Takes X W) : Takes X (fun c d σ H => σ.length = X.N.length → W c d σ H) := fun u s' ⟨a, B, sI, pins, σ, H, cls, d, e, I, nb, up, sky, na, os, ag, w⟩ =>
  tk u s' ⟨a, B, sI, pins, σ, H, cls, d, e, I, nb, up, sky, na, os, ag, w I.len⟩
end
section
variable {K : PySem.W.Frag} {σ : L2.St} {H : Hp} {Q : VK} {B : Hp} {M : List (Addr × HO)} {a D : Addr}
/-- isinstance of a kept error without a dict, walked -/
theorem w_isK {c : V} {cv : Value} {b : Bool} (ha : H a = some (ExK (.ref D) none a)) (C : ExcC K D) (hc : ∀ u, RelV c u → u = cv) (e : PySem.W.kitOne K (.ref D) cv = some b) (k : Q (.bl b) H) : rIsK K [.ref a, c] H Q :=
  ⟨a, D, none, c, cv, b, rfl, ha, (fun _ z => nomatch z), C, hc, e, k⟩
theorem rel_ref {C : Addr} : ∀ u, RelV (.ref C) u → u = .ref C := fun _ h => h
theorem rel_ty {s : String} : ∀ u, RelV (.ty s) u → u = .type s := fun _ h => h
end
end Rw

/-! Rw, further: defaults, item sums, zip in comprehensions, vectors. -/
namespace Rw
open PySem PySem.Spec PyProof.Rows L2

/-! ### what may raise, where no raising is wished -/
theorem calmed {P : Program} {w : World} {K : PySem.W.Frag} {mg : Str → Option Value} {base : Heap} {k : Nat} {f : Addr} {fd : FuncData} {ps : List Str} {sp : Sp} (F : FnOk P w K mg base (L2.CX P w) k f fd ps sp) :
    FnOk P w K mg base CX0 k f fd ps (fun vs H Q _ => sp vs H Q (fun _ _ _ => False)) := by
  refine ⟨fun vs H Q E h => F.len vs H Q _ h, fun A outer s H args us vs Q E hr he hb hv h => ?_⟩
  refine codeAny_mono (F.run A outer s H args us vs Q _ hr he hb hv h) fun r s' hq => ?_
  cases r with
  | error e =>
    obtain ⟨a, B', H', cls, d, _, _, _, _, _, _, _, z⟩ := hq
    exact z.elim
  | ok fl => cases fl <;> exact hq
section
variable {P : Program} {w : World} {K : PySem.W.Frag} {mg : Str → Option Value} {base : Heap} {C : Addr} {x m : Str} {k j : Nat} {ps : List Str} {sp sp' : Sp}
theorem CalMX.calm (F : CalMX P w K mg base C m k ps sp) (h : ∀ vs H Q, sp' vs H Q E0 → sp vs H Q (fun _ _ _ => False)) (hE : ∀ vs H Q E, sp' vs H Q E → sp' vs H Q E0) : CalM P w K mg base C m k ps sp' := by
  obtain ⟨f, fd, h1, h2, h3⟩ := F.ex
  exact ⟨f, fd, h1, h2, (calmed h3).imp fun vs H Q E q => h vs H Q (hE vs H Q E q)⟩
theorem CalCX.calm (F : CalCX P w K mg base C x k ps sp) (h : ∀ vs H Q, sp' vs H Q E0 → sp vs H Q (fun _ _ _ => False)) (hE : ∀ vs H Q E, sp' vs H Q E → sp' vs H Q E0) : CalC P w K mg base C x k ps sp' := by
  obtain ⟨f, fd, h1, h2, h3, h4⟩ := F.ex
  exact ⟨f, fd, h1, h2, h3, (calmed h4).imp fun vs H Q E q => h vs H Q (hE vs H Q E q)⟩
theorem CalX.calm (F : CalX P w K mg base x k ps sp) (h : ∀ vs H Q, sp' vs H Q E0 → sp vs H Q (fun _ _ _ => False)) (hE : ∀ vs H Q E, sp' vs H Q E → sp' vs H Q E0) : Cal P w K mg base x k ps sp' := by
  obtain ⟨f, fd, h1, h2, h3, h4, h5⟩ := F.ex
  exact ⟨f, fd, h1, h2, h3, (calmed h4).imp fun vs H Q E q => h vs H Q (hE vs H Q E q), h5⟩
theorem CalM.mono (F : CalM P w K mg base C x j ps sp) (h : j ≤ k) : CalM P w K mg base C x k ps sp := by
  obtain ⟨f, fd, h1, h2, h3⟩ := F.ex
  exact ⟨f, fd, h1, h2, h3.mono h⟩
theorem CalX.mono (F : CalX P w K mg base x j ps sp) (h : j ≤ k) : CalX P w K mg base x k ps sp := by
  obtain ⟨f, fd, h1, h2, h3, h4, h5⟩ := F.ex
  exact ⟨f, fd, h1, h2, h3, h4.mono h, h5⟩
theorem CalMX.mono (F : CalMX P w K mg base C x j ps sp) (h : j ≤ k) : CalMX P w K mg base C x k ps sp := by
  obtain ⟨f, fd, h1, h2, h3⟩ := F.ex
  exact ⟨f, fd, h1, h2, h3.mono h⟩
theorem CalC.mono (F : CalC P w K mg base C x j ps sp) (h : j ≤ k) : CalC P w K mg base C x k ps sp := by
  obtain ⟨f, fd, h1, h2, h3, h4⟩ := F.ex
  exact ⟨f, fd, h1, h2, h3, h4.mono h⟩
theorem CalCX.mono (F : CalCX P w K mg base C x j ps sp) (h : j ≤ k) : CalCX P w K mg base C x k ps sp := by
  obtain ⟨f, fd, h1, h2, h3, h4⟩ := F.ex
  exact ⟨f, fd, h1, h2, h3, h4.mono h⟩
end

/-! ### defs with defaults -/
structure GloMD (K : PySem.W.Frag) (C : Addr) (m qual : Str) (st : Stmt) (dvs : List V) : Prop where
  ex : ∃ (f : Addr) (fd : FuncData), Meth K C m f ∧ FunD K m qual (defArgs st) (defBody st) (defScope st) dvs [] f fd
structure GloCD (K : PySem.W.Frag) (mg : Str → Option Value) (C : Addr) (x qual : Str) (st : Stmt) (dvs : List V) : Prop where
  ex : ∃ (f : Addr) (fd : FuncData), mg x = some (.ref C) ∧ Mk K C f ∧ FunD K "__init__" qual (defArgs st) (defBody st) (defScope st) dvs [] f fd
/-- promises with the last parameters' defaults filled in -/
structure CalMd (P : Program) (w : World) (K : PySem.W.Frag) (mg : Str → Option Value) (base : Heap) (C : Addr) (m : Str) (k : Nat) (ps : List Str) (dvs : List V) (sp : Sp) : Prop where
  ex : ∃ (f : Addr) (fd : FuncData) (ds : List Value), Meth K C m f ∧ Vals dvs ds ∧ Binds K fd ps ds ∧ FnOk P w K mg base (L2.CX P w) k f fd ps sp
structure CalCd (P : Program) (w : World) (K : PySem.W.Frag) (mg : Str → Option Value) (base : Heap) (C : Addr) (x : Str) (k : Nat) (ps : List Str) (dvs : List V) (sp : Sp) : Prop where
  ex : ∃ (f : Addr) (fd : FuncData) (ds : List Value), mg x = some (.ref C) ∧ Mk K C f ∧ Vals dvs ds ∧ Binds K fd ps ds ∧ FnOk P w K mg base (L2.CX P w) k f fd ps sp
section
variable {P : Program} {w : World} {K : PySem.W.Frag} {mg : Str → Option Value} {base : Heap} {C : Addr} {x m qual : Str} {st : Stmt} {k j n : Nat} {ps N : List Str} {sp : Sp} {dvs : List V}
/-- how n written values and the defaults behind the first j bind -/
abbrev BindD (m qual : Str) (st : Stmt) (ps : List Str) (many n j : Nat) : Prop := ∀ (T : Addr) (kV doc pm : Value) (an : Option Addr) (cdv ct : Value) (us its : List Value), us.length = n → its.length = many →
  ∃ k, bindArgs (PySem.W.fnOf m qual (defArgs st) (defBody st) (defScope st) (.ref T) kV doc pm an cdv ct) ⟨us, []⟩ = seqItems? (.ref T) >>= k ∧ k (some its.toArray) = pure (ps.zip (us ++ its.drop j))
abbrev BodyX (P : Program) (w : World) (K : PySem.W.Frag) (mg : Str → Option Value) (base : Heap) (N : List Str) (qual : Str) (st : Stmt) (k : Nat) (sp : Sp) : Prop :=
  ∀ (f : Addr) (cdv : Value) (A : Around) (outer : List Env) (s : Shared) (H : Hp) (vs : List V) (Q : VK) (E : XK), Room k (A.deeper (envOfC qual (defScope st) s.heap.objs.size f cdv)) → sp vs H Q E →
    ∃ t, PSs (cxOf (L2.CX P w) P w K mg base N qual (defScope st) f cdv A outer s H E) (defBody st) t ∧ t { nx := fun _ H' => Q .non H', rt := Q } (start N vs) H
theorem GloMD.calD (G : GloMD K C m qual st dvs) (S : FnScope N ps (defScope st)) (n j : Nat) (hd : dvs ≠ []) (hn : n + (dvs.length - j) = ps.length) (bn : BindD m qual st ps dvs.length n j)
    (len : ∀ (vs : List V) (H : Hp) (Q : VK) (E : XK), sp vs H Q E → vs.length = ps.length) (hbody : BodyX P w K mg base N qual st k sp) : CalMd P w K mg base C m (k + 1) ps (dvs.drop j) sp := by
  obtain ⟨f, fd, h1, F⟩ := G.ex
  obtain ⟨ds, h2, h3⟩ := F.binds1 n j hd hn bn
  exact ⟨f, fd, ds, h1, h2, h3, F.ok S len (fun cdv A outer s H vs Q E hr h => hbody f cdv A outer s H vs Q E hr h)⟩
theorem GloCD.calD (G : GloCD K mg C x qual st dvs) (S : FnScope N ps (defScope st)) (n j : Nat) (hd : dvs ≠ []) (hn : n + (dvs.length - j) = ps.length) (bn : BindD "__init__" qual st ps dvs.length n j)
    (len : ∀ (vs : List V) (H : Hp) (Q : VK) (E : XK), sp vs H Q E → vs.length = ps.length) (hbody : BodyX P w K mg base N qual st k sp) : CalCd P w K mg base C x (k + 1) ps (dvs.drop j) sp := by
  obtain ⟨f, fd, h0, h1, F⟩ := G.ex
  obtain ⟨ds, h2, h3⟩ := F.binds1 n j hd hn bn
  exact ⟨f, fd, ds, h0, h1, h2, h3, F.ok S len (fun cdv A outer s H vs Q E hr h => hbody f cdv A outer s H vs Q E hr h)⟩
theorem vals_nil {ds : List Value} (h : Vals [] ds) : ds = [] := by cases h; rfl
theorem CalMd.full (F : CalMd P w K mg base C m k ps [] sp) : CalMX P w K mg base C m k ps sp := by
  obtain ⟨f, fd, ds, h1, h2, h3, h4⟩ := F.ex
  rw [vals_nil h2] at h3
  exact ⟨f, fd, h1, h3, h4⟩
theorem CalCd.full (F : CalCd P w K mg base C x k ps [] sp) : CalCX P w K mg base C x k ps sp := by
  obtain ⟨f, fd, ds, h0, h1, h2, h3, h4⟩ := F.ex
  rw [vals_nil h2] at h3
  exact ⟨f, fd, h0, h1, h3, h4⟩
theorem CalMd.mono (F : CalMd P w K mg base C m j ps dvs sp) (h : j ≤ k) : CalMd P w K mg base C m k ps dvs sp := by
  obtain ⟨f, fd, ds, h1, h2, h3, h4⟩ := F.ex
  exact ⟨f, fd, ds, h1, h2, h3, h4.mono h⟩
theorem CalCd.mono (F : CalCd P w K mg base C x j ps dvs sp) (h : j ≤ k) : CalCd P w K mg base C x k ps dvs sp := by
  obtain ⟨f, fd, ds, h0, h1, h2, h3, h4⟩ := F.ex
  exact ⟨f, fd, ds, h0, h1, h2, h3, h4.mono h⟩
end
section
variable {X : Cx} {C : Addr} {x m : Str} {k : Nat} {ps : List Str} {sp : Sp} {E : XK} {W : WX} {o e : Expr} {es : List Expr} {ta : TE} {t : TA} {p apos pos : Pos} {dvs : List V}
/-- o.m(e, ..) with defaults, what it raises wished for -/
theorem pe_calMdX {pl : Sem Bool} (he : PE X o ta) (T : Cls X.K C) (F : CalMd X.prog X.w X.K X.mg X.base C m k ps dvs sp) (hr : Room k X.A) (tk : Takes X W) (hW : ∀ cls d σ H, E cls d H → W cls d σ H) (ha : PA X (e :: es) t)
    (star : starEach (e :: es) X.env = (false, eval e X.env) :: starEach es X.env := by rfl) (plain : (backTo pos (starEach es X.env)).any (·.1) = false := by rfl) (ht : eval (.Call (.Attribute o m apos) (e :: es) [] pos) X.env = (do
      let w ← eval o X.env
      standAt apos.atName
      let (f, one) ← holding [w] (getMethod w m pl)
      callWith pos f one (backTo pos (starEach (e :: es) X.env)) (backToKw pos (keywordEach [] X.env))) := by rfl) :
    PE X (.Call (.Attribute o m apos) (e :: es) [] pos) (tMeth C m sp (dvs : List V) E ta t) := by
  obtain ⟨f, fd, ds, h1, h2, h3, h4⟩ := F.ex
  exact pe_meth he T h1 h4 hr h3 h2 (passes_call tk hW) ha star plain ht
/-- .. where none is wished -/
theorem pe_calMd {pl : Sem Bool} (he : PE X o ta) (T : Cls X.K C) (F : CalMd X.prog X.w X.K X.mg X.base C m k ps dvs sp) (hr : Room k X.A) (ha : PA X (e :: es) t)
    (star : starEach (e :: es) X.env = (false, eval e X.env) :: starEach es X.env := by rfl) (plain : (backTo pos (starEach es X.env)).any (·.1) = false := by rfl) (ht : eval (.Call (.Attribute o m apos) (e :: es) [] pos) X.env = (do
      let w ← eval o X.env
      standAt apos.atName
      let (f, one) ← holding [w] (getMethod w m pl)
      callWith pos f one (backTo pos (starEach (e :: es) X.env)) (backToKw pos (keywordEach [] X.env))) := by rfl) :
    PE X (.Call (.Attribute o m apos) (e :: es) [] pos) (tMeth C m (fun vs H Q _ => sp vs H Q (fun _ _ _ => False)) dvs E0 ta t) := by
  obtain ⟨f, fd, ds, h1, h2, h3, h4⟩ := F.ex
  exact pe_meth he T h1 (calmed h4) hr h3 h2 pass0 ha star plain ht
theorem pe_mkd (F : CalCd X.prog X.w X.K X.mg X.base C x k ps dvs sp) (hr : Room (k + 1) X.A) (hg : Gl X x) (ha : PA X (e :: es) t) (hdb : (x == ("__debug__" : Str)) = false := by decide) (he : starEach (e :: es) X.env = (false, eval e X.env) :: starEach es X.env := by rfl) (hpl : (backTo pos (starEach es X.env)).any (·.1) = false := by rfl) :
    PE X (.Call (.Name x p) (e :: es) [] pos) (tMake C (fun vs H Q _ => sp vs H Q (fun _ _ _ => False)) dvs E0 t) := by
  obtain ⟨f, fd, ds, h0, h1, h2, h3, h4⟩ := F.ex
  exact pe_make h1 (calmed h4) hr hg h0 h3 h2 pass0 ha hdb he hpl
end
/-- the promise without a wish of raising -/
abbrev noE (sp : Sp) : Sp := fun vs H Q _ => sp vs H Q (fun _ _ _ => False)
section
variable {P : Program} {w : World} {K : PySem.W.Frag} {mg : Str → Option Value} {base : Heap} {C : Addr} {x m : Str} {k : Nat} {ps : List Str} {sp : Sp}
theorem CalX.toC (F : CalX P w K mg base x k ps sp) : Cal P w K mg base x k ps (noE sp) := by
  obtain ⟨f, fd, h1, h2, h3, h4, h5⟩ := F.ex
  exact ⟨f, fd, h1, h2, h3, calmed h4, h5⟩
theorem CalMX.toM (F : CalMX P w K mg base C m k ps sp) : CalM P w K mg base C m k ps (noE sp) := by
  obtain ⟨f, fd, h1, h2, h3⟩ := F.ex
  exact ⟨f, fd, h1, h2, calmed h3⟩
theorem CalCX.toC (F : CalCX P w K mg base C x k ps sp) : CalC P w K mg base C x k ps (noE sp) := by
  obtain ⟨f, fd, h1, h2, h3, h4⟩ := F.ex
  exact ⟨f, fd, h1, h2, h3, calmed h4⟩
end
/-! walked -/
section
variable {K : PySem.W.Frag} {σ : L2.St} {H : Hp} {Q : VK} {E : XK} {ta te : TE} {t : TA} {B : Hp} {M : List (Addr × HO)} {p : Addr} {C : Addr} {m : Str} {sp : Sp} {dvs : List V} {D : Ends} {xs : List V}
def MethD (C : Addr) (m : Str) (sp : Sp) (dvs : List V) (E : XK) (y : V) (t : TA) (σ : L2.St) (H1 : Hp) (Q : VK) : Prop := ∃ p dx fs, y = .ref p ∧ H1 p = some (.ins C dx fs) ∧ fs.lookup m = none ∧ t σ H1 fun vs H2 => sp (y :: (vs ++ dvs)) H2 Q E
theorem w_methd (k : ta σ H fun x H1 => MethD C m sp dvs E x t σ H1 Q) : tMeth C m sp dvs E ta t σ H Q := k
theorem w_methdE {dx : Addr} {fs : List (Str × V)} (h : H p = some (.ins C dx fs)) (hm : fs.lookup m = none) (k : t σ H fun vs H2 => sp (.ref p :: (vs ++ dvs)) H2 Q E) : MethD C m sp dvs E (.ref p) t σ H Q := ⟨p, dx, fs, rfl, h, hm, k⟩
def MakeD (C : Addr) (sp : Sp) (dvs : List V) (E : XK) (vs : List V) (H : Hp) (Q : VK) : Prop := ∀ x dx, H x = none → H dx = none → dx ≠ x → sp (.ref x :: (vs ++ dvs)) (upd (upd H dx (.own x)) x (.ins C dx [])) (fun v H2 => v = .non ∧ Q (.ref x) H2) E
theorem w_maked (k : t σ H fun vs H1 => MakeD C sp dvs E vs H1 Q) : tMake C sp dvs E t σ H Q := k
theorem w_makedE {vs : List V} (S : Hs B M H) (k : ∀ x dx H', Hs B ((x, .ins C dx []) :: (dx, .own x) :: M) H' → sp (.ref x :: (vs ++ dvs)) H' (fun v H2 => v = .non ∧ Q (.ref x) H2) E) : MakeD C sp dvs E vs H Q := fun x dx hx hd ne =>
  k x dx _ ((S.new hd (.own x)).new (by rw [upd_ne ne.symm]; exact hx) _)
/-! ### xs[i] += e -/
/-- an item of a list, read by a place that is not below 0 -/
def rGet (K : PySem.W.Frag) : V → V → Hp → VK → Prop := fun o i H Q => ∃ p xs j v, o = .ref p ∧ i = .int j ∧ SqL K H p xs ∧ 0 ≤ j ∧ xs[j.toNat]? = some v ∧ Q v H
theorem get_list {X : Cx} (K : PySem.W.Frag) (e : X.K = K := by rfl) : PGet X (rGet K) := by
  subst e
  intro pl0 s σ H o i ov iv Q I ro ri h
  obtain ⟨p, xs, j, v, rfl, rfl, hq, h0, hv, q⟩ := h
  cases ro
  obtain ⟨t, rfl⟩ := ri
  obtain ⟨items, rv, plain, hz⟩ := I.list hq
  obtain ⟨u, hu, ru⟩ := rv.get hv
  have hl := rv.length
  have hj := (List.getElem?_eq_some_iff.mp hv).1
  have big := line63
  exact wpAny_getItem_list plain.isList h0 (by omega) (by simpa using hu) ⟨v, H, I, ru, q⟩
def AugG (K : PySem.W.Frag) (te : TE) (tip : TIp) (o i : V) (D : Ends) (σ : L2.St) (H : Hp) : Prop := rGet K o i H fun x H3 => te σ H3 fun y H4 => tip x y H4 fun z H5 => rSetL o i z H5 fun H6 => D.nx σ H6
theorem w_augS {to ti : TE} {tip : TIp} (k : to σ H fun o H1 => ti σ H1 fun i H2 => AugG K te tip o i D σ H2) : tAugS to ti te (rGet K) tip rSetL D σ H := k
theorem w_augGE {tip : TIp} {j : Int} {v : V} (h : SqL K H p xs) (h0 : 0 ≤ j) (hv : xs[j.toNat]? = some v) (k : te σ H fun y H4 => tip v y H4 fun z H5 => rSetL (.ref p) (.int j) z H5 fun H6 => D.nx σ H6) : AugG K te tip (.ref p) (.int j) D σ H :=
  ⟨p, xs, j, v, rfl, rfl, h, h0, hv, k⟩
theorem w_ipI {f : Int → Int → Int} {i j : Int} (k : Q (.int (f i j)) H) : ipI f (.int i) (.int j) H Q := ⟨i, j, rfl, rfl, k⟩
/-- name op= e -/
def AugN (i : Nat) (x : V) (te : TE) (ti : TIp) (D : Ends) (σ : L2.St) (H : Hp) : Prop := te σ H fun y H1 => ti x y H1 fun z H2 => D.nx (σ.set i (some z)) H2
/-! ### divmod -/
def rDvm : List V → Hp → VK → Prop := fun xs H Q => ∃ i j, xs = [.int i, .int j] ∧ CDiv i j ∧ ∀ p, H p = none → Q (.ref p) (upd H p (.tup [.int (i / j), .int (i % j)]))
theorem call_dvm {X : Cx} : CallR X (.builtin "divmod") rDvm := call_divmod
theorem w_dvm {i j : Int} (S : Hs B M H) (h0 : 0 < j) (h1 : j < 1073741824) (k : ∀ p H', Hs B ((p, .tup [.int (i / j), .int (i % j)]) :: M) H' → Q (.ref p) H') : rDvm [.int i, .int j] H Q := ⟨i, j, rfl, ⟨h0, h1⟩, fun p hp => k p _ (S.new hp _)⟩
/-! ### a comprehension over zip(xs, ys), the pair a cell -/
theorem lc_Z {a b : Addr} {xs ys : List V} {g : TG} {tt : TT} {vs : List Nat} (S : Hs B M H) (hx : B a = some (.lst xs)) (hy : B b = some (.lst ys)) (hxy : xs.length = ys.length) (Pv : Nat → Hp → List V → Prop) (h0 : Pv 0 B [])
    (hs : ∀ (i : Nat) (x y : V) (E T : Addr) (B' : Hp) (acc : List V) (H' : Hp), xs[i]? = some x → ys[i]? = some y → acc.length ≤ i → Same B B' → Hs B' ((T, .tup [x, y]) :: (E, .lst acc) :: M) H' → Pv i B' acc → g (.ref T) (wipe σ vs) H' fun σ2 H2 => wipe σ2 vs = wipe σ vs ∧ tt σ2 H2 fun b H3 =>
      if b = true then te σ2 H3 fun y H4 => LcP B M Pv (i + 1) E y H4 else LcN B M Pv (i + 1) E H3)
    (hd : ∀ (E : Addr) (B' : Hp) (acc : List V) (H' : Hp), Same B B' → Hs B' ((E, .lst acc) :: M) H' → acc.length ≤ xs.length → Pv xs.length B' acc → Q (.ref E) H') : LcJ (Itz K a b) g tt te vs σ H Q :=
  lc_by (walk_zip (K := K) (a := a) (b := b) (xs := xs) (ys := ys) (n := xs.length) (by omega)) S Pv h0 (fun B' H' e S' => ⟨sqL_of (S'.ex _ _ (e _ _ hx)), sqL_of (S'.ex _ _ (e _ _ hy))⟩) (fun i x E B' acc H' H'' _ hl e S' pv y => by
    obtain ⟨T, u, z, rfl, h2, rfl, e1, e2⟩ := y
    exact hs i u z E T B' acc _ e1 e2 hl e (S'.new h2 _) pv) hd
end

theorem ixN_nat {n i : Nat} (h : i < n) : ixN n (i : Int) = some i := by
  unfold ixN
  rw [if_pos (by omega)]
  simp [h]
/-! ### vectors: one number a place -/
def vec (n : Nat) (f : Nat → Int) : List Int := (List.range n).map f
section
variable {n : Nat} {f g : Nat → Int}
@[simp] theorem vec_len : (vec n f).length = n := by unfold vec; simp
theorem vec_get {i : Nat} (h : i < n) : (vec n f)[i]? = some (f i) := by unfold vec; simp [h]
theorem vec_getV {i : Nat} (h : i < n) : ((vec n f).map V.int)[i]? = some (.int (f i)) := by rw [List.getElem?_map, vec_get h]; rfl
theorem vec_congr (h : ∀ i, i < n → f i = g i) : vec n f = vec n g := by
  unfold vec
  exact List.map_congr_left fun i hi => h i (List.mem_range.mp hi)
theorem vec_inj (h : vec n f = vec n g) : ∀ i, i < n → f i = g i := fun i hi => by
  have e := vec_get (f := f) hi
  rw [h, vec_get hi] at e
  exact (Option.some.inj e).symm
def put1 (f : Nat → Int) (j : Nat) (v : Int) : Nat → Int := fun i => if i = j then v else f i
theorem vec_set {j : Nat} {v : Int} (h : j < n) : (vec n f).set j v = vec n (put1 f j v) := by
  refine List.ext_getElem? fun i => ?_
  by_cases hi : i < n
  · rw [vec_get hi]
    by_cases hij : i = j
    · subst hij
      rw [List.getElem?_set_self (by simp; omega)]
      unfold put1; rw [if_pos rfl]
    · rw [List.getElem?_set_ne (Ne.symm hij), vec_get hi]
      unfold put1; rw [if_neg hij]
  · rw [List.getElem?_eq_none (by simp; omega), List.getElem?_eq_none (by simp; omega)]
theorem vec_setV {j : Nat} {v : Int} (h : j < n) : ((vec n f).map V.int).set j (.int v) = (vec n (put1 f j v)).map V.int := by
  rw [← vec_set h, List.map_set]
theorem vec_zero : List.replicate n (0 : Int) = vec n (fun _ => 0) := by
  refine List.ext_getElem? fun i => ?_
  by_cases hi : i < n
  · rw [vec_get hi, List.getElem?_replicate, if_pos hi]
  · rw [List.getElem?_eq_none (by simp; omega), List.getElem?_eq_none (by simp; omega)]
theorem vec_succ : vec (n + 1) f = vec n f ++ [f n] := by unfold vec; rw [List.range_succ, List.map_append]; rfl
end
end Rw

/-! Rw: hands, walkers and how often places are left. -/
namespace Rw
/-! ### sums over places -/
def sumN : Nat → (Nat → Int) → Int
  | 0, _ => 0
  | n + 1, f => sumN n f + f n
theorem sumN_congr {f g : Nat → Int} : ∀ {n : Nat}, (∀ i, i < n → f i = g i) → sumN n f = sumN n g
  | 0, _ => rfl
  | n + 1, h => by
    show sumN n f + f n = sumN n g + g n
    rw [sumN_congr fun i hi => h i (Nat.lt_succ_of_lt hi), h n (Nat.lt_succ_self n)]
theorem sumN_add (f g : Nat → Int) : ∀ n : Nat, sumN n (fun i => f i + g i) = sumN n f + sumN n g
  | 0 => rfl
  | n + 1 => by
    show sumN n (fun i => f i + g i) + (f n + g n) = (sumN n f + f n) + (sumN n g + g n)
    rw [sumN_add f g n]; omega
theorem sumN_one {f g : Nat → Int} {j : Nat} {d : Int} : ∀ {n : Nat}, j < n → (∀ i, i ≠ j → g i = f i) → g j = f j + d → sumN n g = sumN n f + d
  | 0, h, _, _ => absurd h (Nat.not_lt_zero _)
  | n + 1, h, h1, h2 => by
    show sumN n g + g n = sumN n f + f n + d
    by_cases e : j = n
    · subst e
      rw [h2, sumN_congr (f := g) (g := f) fun i hi => h1 i (Nat.ne_of_lt hi)]; omega
    · rw [sumN_one (n := n) (by omega) h1 h2, h1 n (fun z => e z.symm)]; omega
theorem sumN_le {f g : Nat → Int} : ∀ {n : Nat}, (∀ i, i < n → f i ≤ g i) → sumN n f ≤ sumN n g
  | 0, _ => Int.le_refl _
  | n + 1, h => by
    show sumN n f + f n ≤ sumN n g + g n
    have := sumN_le (n := n) fun i hi => h i (Nat.lt_succ_of_lt hi)
    have := h n (Nat.lt_succ_self n)
    omega
theorem sumN_const (c : Int) : ∀ n : Nat, sumN n (fun _ => c) = c * n
  | 0 => by simp [sumN]
  | n + 1 => by
    show sumN n (fun _ => c) + c = _
    rw [sumN_const c n, Int.natCast_add, Int.mul_add]
    simp
theorem sumN_zero (n : Nat) : sumN n (fun _ => 0) = 0 := by rw [sumN_const, Int.zero_mul]
theorem sum_append_int (xs ys : List Int) : (xs ++ ys).sum = xs.sum + ys.sum := by
  induction xs with
  | nil => simp
  | cons x xs ih => simp only [List.cons_append, List.sum_cons, ih]; omega
theorem sum_vec (f : Nat → Int) : ∀ n : Nat, (vec n f).sum = sumN n f
  | 0 => rfl
  | n + 1 => by
    rw [vec_succ, sum_append_int, sum_vec f n]
    show sumN n f + (f n + 0) = sumN n f + f n
    omega

/-! ### where the next ones go -/
/-- of m walkers who leave by the ways r, the hand at h first, so many come to v -/
def arr (r : List Int) (h : Int) : Nat → Int → Int
  | 0, _ => 0
  | m + 1, v => arr r h m v + (if r.getD ((h + m) % r.length).toNat (-1) = v then 1 else 0)
theorem arr_add (r : List Int) (h : Int) (a : Nat) (v : Int) : ∀ b : Nat, arr r h (a + b) v = arr r h a v + arr r (h + a) b v
  | 0 => by show arr r h a v = arr r h a v + 0; omega
  | b + 1 => by
    show arr r h (a + b) v + _ = arr r h a v + (arr r (h + a) b v + _)
    rw [arr_add r h a v b]
    have e : h + ((a.add b : Nat) : Int) = h + (a : Int) + (b : Int) := by show h + ((a + b : Nat) : Int) = _; omega
    rw [e]; omega
theorem arr_mod (r : List Int) (h : Int) (v : Int) : ∀ m : Nat, arr r (h % r.length) m v = arr r h m v
  | 0 => rfl
  | m + 1 => by
    show arr r (h % r.length) m v + _ = arr r h m v + _
    rw [arr_mod r h v m]
    have e : (h % (r.length : Int) + (m : Int)) % (r.length : Int) = (h + (m : Int)) % (r.length : Int) := by rw [Int.add_emod, Int.emod_emod_of_dvd _ (Int.dvd_refl _), ← Int.add_emod]
    rw [e]
theorem arr_pre (r : List Int) (v : Int) : ∀ m : Nat, m ≤ r.length → arr r 0 m v = ((r.take m).count v : Nat)
  | 0, _ => by simp [arr]
  | m + 1, h => by
    show arr r 0 m v + _ = _
    rw [arr_pre r v m (by omega)]
    have e : ((0 : Int) + (m : Int)) % (r.length : Int) = (m : Int) := by rw [Int.zero_add]; exact Int.emod_eq_of_lt (by omega) (by omega)
    rw [e, Int.toNat_natCast, List.take_add_one, List.count_append, List.getElem?_eq_getElem (show m < r.length by omega)]
    rw [List.getD_eq_getElem?_getD, List.getElem?_eq_getElem (show m < r.length by omega)]
    simp only [Option.getD_some, Option.toList_some, List.count_singleton, Int.natCast_add]
    by_cases hv : r[m] = v
    · simp [hv]
    · simp [hv]
theorem arr_one (r : List Int) (h : Int) (v : Int) : arr r h 1 v = if r.getD (h % r.length).toNat (-1) = v then 1 else 0 := by
  show (0 : Int) + (if r.getD ((h + ((0 : Nat) : Int)) % r.length).toNat (-1) = v then 1 else 0) = _
  rw [show h + ((0 : Nat) : Int) = h by omega, Int.zero_add]
theorem arr_round (r : List Int) (v : Int) : ∀ h : Nat, arr r h r.length v = (r.count v : Nat)
  | 0 => by have := arr_pre r v r.length (Nat.le_refl _); rw [List.take_length] at this; exact this
  | h + 1 => by
    rw [← arr_round r v h]
    have a := arr_add r h 1 v r.length
    have b := arr_add r h r.length v 1
    rw [Nat.add_comm 1] at a
    rw [a] at b
    rw [arr_one, arr_one] at b
    have e : ((h : Int) + (r.length : Int)) % (r.length : Int) = (h : Int) % (r.length : Int) := Int.add_emod_right ..
    rw [e] at b
    have e2 : ((h + 1 : Nat) : Int) = (h : Int) + ((1 : Nat) : Int) := by omega
    rw [e2]
    omega
theorem arr_rounds (r : List Int) (v : Int) (h : Int) (h0 : 0 ≤ h) : ∀ (q m : Nat), arr r h (q * r.length + m) v = q * (r.count v : Nat) + arr r h m v
  | 0, m => by rw [Nat.zero_mul, Nat.zero_add]; simp
  | q + 1, m => by
    have e : (q + 1) * r.length + m = r.length + (q * r.length + m) := by rw [Nat.add_mul]; omega
    rw [e, arr_add]
    have h1 : arr r h r.length v = (r.count v : Nat) := by
      have := arr_round r v h.toNat
      rwa [Int.toNat_of_nonneg h0] at this
    have h2 : arr r (h + r.length) (q * r.length + m) v = arr r h (q * r.length + m) v := by
      rw [← arr_mod, Int.add_emod_right, arr_mod]
    rw [h1, h2, arr_rounds r v h h0 q m, Int.natCast_add, Int.add_mul]
    omega
theorem arr_nn (r : List Int) (h : Int) (v : Int) : ∀ m : Nat, 0 ≤ arr r h m v
  | 0 => Int.le_refl _
  | m + 1 => by
    show 0 ≤ arr r h m v + _
    have := arr_nn r h v m
    split <;> omega

/-! ### the state by how often each place is left -/
def rowOf (rows : List (List Int)) (i : Nat) : List Int := rows.getD i []
def degOf (rows : List (List Int)) (i : Nat) : Nat := (rowOf rows i).length
theorem rowOf_get {rows : List (List Int)} {i : Nat} (h : i < rows.length) : rows[i]? = some (rowOf rows i) := by
  unfold rowOf; rw [List.getD_eq_getElem?_getD, List.getElem?_eq_getElem h]; rfl
/-- hands -/
def hx (rows : List (List Int)) (h0 : Nat → Int) (x : Nat → Nat) (i : Nat) : Int := (h0 i + x i) % (degOf rows i : Nat)
/-- walkers -/
def wx (rows : List (List Int)) (h0 p : Nat → Int) (x : Nat → Nat) (v : Nat) : Int := p v + sumN rows.length (fun u => arr (rowOf rows u) (h0 u) (x u) v) - x v
/-- the place to which the hand points -/
def ptx (rows : List (List Int)) (h0 : Nat → Int) (x : Nat → Nat) (i : Nat) : Int := (rowOf rows i).getD (hx rows h0 x i).toNat (-1)
def up (x : Nat → Nat) (i t : Nat) : Nat → Nat := fun j => if j = i then x j + t else x j
section
variable {rows : List (List Int)} {h0 p : Nat → Int} {x : Nat → Nat} {i t v : Nat}
theorem up_same : up x i t i = x i + t := by unfold up; rw [if_pos rfl]
theorem up_ne {j : Nat} (h : j ≠ i) : up x i t j = x j := by unfold up; rw [if_neg h]
theorem up_zero : up x i 0 = x := by
  funext j
  unfold up
  split <;> rfl
theorem up_up {s : Nat} : up (up x i t) i s = up x i (t + s) := by
  funext j
  unfold up
  split <;> omega
theorem hx_up : hx rows h0 (up x i t) = put1 (hx rows h0 x) i ((hx rows h0 x i + t) % (degOf rows i : Nat)) := by
  funext j
  unfold put1 hx
  by_cases h : j = i
  · subst h
    rw [if_pos rfl, up_same, Int.natCast_add, ← Int.add_assoc, Int.emod_add_emod]
  · rw [if_neg h, up_ne h]
theorem wx_up (hi : i < rows.length) : wx rows h0 p (up x i t) v = wx rows h0 p x v - (if v = i then (t : Int) else 0) + arr (rowOf rows i) (hx rows h0 x i) t v := by
  unfold wx
  rw [sumN_one (f := fun u => arr (rowOf rows u) (h0 u) (x u) v) (j := i) (d := arr (rowOf rows i) (hx rows h0 x i) t v) hi (fun j hj => by rw [up_ne hj]) ?_]
  · by_cases h : v = i
    · subst h
      rw [up_same, if_pos rfl]; omega
    · rw [up_ne h, if_neg h]; omega
  · show arr (rowOf rows i) (h0 i) (up x i t i) v = _
    rw [up_same, arr_add]
    unfold hx degOf
    rw [arr_mod]
theorem wx_up1 (hi : i < rows.length) : wx rows h0 p (up x i 1) v = wx rows h0 p x v - (if v = i then 1 else 0) + (if ptx rows h0 x i = v then 1 else 0) := by
  rw [wx_up hi, arr_one]
  have e : hx rows h0 x i % ((rowOf rows i).length : Nat) = hx rows h0 x i := by unfold hx degOf; exact Int.emod_emod_of_dvd _ (Int.dvd_refl _)
  rw [e]
  rfl
end
/-- hands that are some -/
def Hands (rows : List (List Int)) (h0 : Nat → Int) : Prop := ∀ i, i < rows.length → 0 ≤ h0 i ∧ (h0 i < degOf rows i ∨ h0 i = 0)
section
variable {rows : List (List Int)} {h0 p : Nat → Int} {x : Nat → Nat} {i t v : Nat}
theorem hx_zero (hh : Hands rows h0) (hi : i < rows.length) : hx rows h0 (fun _ => 0) i = h0 i := by
  unfold hx
  have h := hh i hi
  rw [show ((0 : Nat) : Int) = 0 from rfl, Int.add_zero]
  rcases h.2 with h2 | h2
  · exact Int.emod_eq_of_lt h.1 (by exact_mod_cast h2)
  · rw [h2, Int.zero_emod]
theorem wx_zero : wx rows h0 p (fun _ => 0) v = p v := by
  unfold wx
  have e : sumN rows.length (fun u => arr (rowOf rows u) (h0 u) ((fun _ => 0 : Nat → Nat) u) v) = 0 := (sumN_congr (g := fun _ => 0) fun u _ => rfl).trans (sumN_zero _)
  rw [e]
  show p v + 0 - ((0 : Nat) : Int) = p v
  omega
theorem hx_range (hd : 0 < degOf rows i) : 0 ≤ hx rows h0 x i ∧ hx rows h0 x i < (degOf rows i : Nat) := by
  unfold hx
  exact ⟨Int.emod_nonneg _ (by omega), Int.emod_lt_of_pos _ (by omega)⟩
theorem ptx_get (hd : 0 < degOf rows i) : (rowOf rows i)[(hx rows h0 x i).toNat]? = some (ptx rows h0 x i) := by
  have h := hx_range (rows := rows) (h0 := h0) (x := x) hd
  have h2 : (hx rows h0 x i).toNat < (rowOf rows i).length := by unfold degOf at h; omega
  unfold ptx
  rw [List.getD_eq_getElem?_getD, List.getElem?_eq_getElem h2]; rfl
end
end Rw

/-! Rw: the steps kept, taken back; the order of cells. -/
namespace Rw
open PySem PySem.Spec PyProof.Rows L2
def xsum : List (Nat × Nat) → Nat → Nat
  | [], _ => 0
  | q :: r, i => (if i = q.1 then q.2 else 0) + xsum r i
theorem xsum_snoc {i t : Nat} : ∀ rs : List (Nat × Nat), xsum (rs ++ [(i, t)]) = up (xsum rs) i t
  | [] => by
    funext j
    show (if j = i then t else 0) + 0 = if j = i then 0 + t else 0
    split <;> omega
  | q :: rs => by
    funext j
    show (if j = q.1 then q.2 else 0) + xsum (rs ++ [(i, t)]) j = _
    rw [xsum_snoc rs]
    unfold up
    show _ = if j = i then ((if j = q.1 then q.2 else 0) + xsum rs j) + t else ((if j = q.1 then q.2 else 0) + xsum rs j)
    by_cases h : j = i
    · rw [if_pos h, if_pos h]; omega
    · rw [if_neg h, if_neg h]
theorem xsum_nil : xsum [] = fun _ => 0 := rfl
/-- the last step taken back -/
def lastOff (rs : List (Nat × Nat)) (i t : Nat) : List (Nat × Nat) := if 1 < t then rs ++ [(i, t - 1)] else rs
theorem lastOff_up {rs : List (Nat × Nat)} {i t : Nat} (h : 1 ≤ t) : up (xsum (lastOff rs i t)) i 1 = xsum (rs ++ [(i, t)]) := by
  unfold lastOff
  rw [xsum_snoc]
  by_cases h1 : 1 < t
  · rw [if_pos h1, xsum_snoc, up_up]
    congr 1; omega
  · rw [if_neg h1]
    congr 1; omega
structure YS where
  h0 : Nat → Int
  p : Nat → Int
  rs : List (Nat × Nat)
structure YOk (rows : List (List Int)) (y : YS) : Prop where
  hh : Hands rows y.h0
  rr : ∀ q ∈ y.rs, q.1 < rows.length ∧ 0 < degOf rows q.1 ∧ 1 ≤ q.2
def YS.x (y : YS) : Nat → Nat := xsum y.rs
def YS.put (y : YS) (i : Nat) (m : Int) : YS := { y with p := put1 y.p i (y.p i + m) }
def YS.more (y : YS) (i t : Nat) : YS := { y with rs := y.rs ++ [(i, t)] }
theorem YOk.put {rows : List (List Int)} {y : YS} (h : YOk rows y) (i : Nat) (m : Int) : YOk rows (y.put i m) := ⟨h.hh, h.rr⟩
theorem YOk.more {rows : List (List Int)} {y : YS} (h : YOk rows y) {i t : Nat} (h1 : i < rows.length) (h2 : 0 < degOf rows i) (h3 : 1 ≤ t) : YOk rows (y.more i t) := ⟨h.hh, fun q hq => by
  rcases List.mem_append.mp hq with z | z
  · exact h.rr q z
  · rw [List.mem_singleton.mp z]; exact ⟨h1, h2, h3⟩⟩
theorem wx_put {rows : List (List Int)} {h0 p : Nat → Int} {x : Nat → Nat} {i : Nat} {m : Int} (v : Nat) : wx rows h0 (put1 p i (p i + m)) x v = put1 (wx rows h0 p x) i (wx rows h0 p x i + m) v := by
  unfold put1 wx
  by_cases h : v = i
  · subst h; simp only [if_true]; omega
  · simp only [h, if_false]
theorem put1_same {f : Nat → Int} {i : Nat} {c : Int} : put1 f i c i = c := by unfold put1; rw [if_pos rfl]
theorem put1_ne {f : Nat → Int} {i j : Nat} {c : Int} (h : j ≠ i) : put1 f i c j = f j := by unfold put1; rw [if_neg h]
theorem Hs.perm {B H : Hp} {M M' : List (Addr × HO)} (S : Hs B M H) (h : M.Perm M') : Hs B M' H :=
  S.sub (fun c hc => h.mem_iff.mpr hc) ((h.map _).nodup_iff.mp S.nd)
/-- two groups of cells change places -/
theorem Hs.swap {B H : Hp} {A C M : List (Addr × HO)} (S : Hs B (A ++ (C ++ M)) H) : Hs B (C ++ (A ++ M)) H := S.perm (by
  rw [← List.append_assoc, ← List.append_assoc]
  exact List.perm_append_comm.append_right M)
theorem rep_int {n : Nat} : (List.replicate n [V.int 0]).flatten = (vec n (fun _ => 0)).map V.int := by
  rw [← vec_zero]
  induction n with
  | zero => rfl
  | succ n ih => rw [List.replicate_succ, List.flatten_cons, ih, List.replicate_succ]; rfl
end Rw

/-! Rw: comprehensions over cells; behind a lambda. -/
namespace Rw
open PySem PySem.Spec PyProof.Rows L2
section
variable {K : PySem.W.Frag} {σ : L2.St} {H : Hp} {Q : VK} {B : Hp} {M : List (Addr × HO)} {te : TE}
/-- a thing stands, in the still part or in a cell -/
def Stay (B : Hp) (M : List (Addr × HO)) (p : Addr) (o : HO) : Prop := ∀ B' H', Same B B' → Hs B' M H' → H' p = some o
theorem Stay.ofB {p : Addr} {o : HO} (h : B p = some o) : Stay B M p o := fun _ _ e S => S.ex _ _ (e _ _ h)
theorem Stay.ofM {p : Addr} {o : HO} (j : Nat) (h : M[j]? = some (p, o) := by rfl) : Stay B M p o := fun _ _ _ S => S.get j h
theorem Stay.at {p : Addr} {o : HO} (h : Stay B M p o) (S : Hs B M H) : H p = some o := h _ _ (Same.refl B) S
theorem Stay.up {p : Addr} {o : HO} {B' : Hp} (h : Stay B M p o) (e : Same B B') : Stay B' M p o := fun _ _ e2 S => h _ _ (e.trans e2) S
theorem Stay.cons {p : Addr} {o : HO} {c : Addr × HO} (h : Stay B M p o) : Stay B (c :: M) p o := fun _ _ e S => h _ _ e (S.drop 0)
/-- over enumerate(xs) -/
theorem lc_ES {a : Addr} {ys : List V} {g : TG} {tt : TT} {vs : List Nat} (S : Hs B M H) (hx : Stay B M a (.lst ys)) (Pv : Nat → Hp → List V → Prop) (h0 : Pv 0 B [])
    (hs : ∀ (i : Nat) (x : V) (E T : Addr) (B' : Hp) (acc : List V) (H' : Hp), ys[i]? = some x → acc.length ≤ i → Same B B' → Hs B' ((T, .tup [.int (i : Int), x]) :: (E, .lst acc) :: M) H' → Pv i B' acc → g (.ref T) (wipe σ vs) H' fun σ2 H2 => wipe σ2 vs = wipe σ vs ∧ tt σ2 H2 fun b H3 =>
      if b = true then te σ2 H3 fun y H4 => LcP B M Pv (i + 1) E y H4 else LcN B M Pv (i + 1) E H3)
    (hd : ∀ (E : Addr) (B' : Hp) (acc : List V) (H' : Hp), Same B B' → Hs B' ((E, .lst acc) :: M) H' → acc.length ≤ ys.length → Pv ys.length B' acc → Q (.ref E) H') : LcJ (Ite K a) g tt te vs σ H Q :=
  lc_by (walk_enum (K := K) (a := a) (xs := ys)) S Pv h0 (fun B' H' e S' => sqL_of (hx _ _ e S')) (fun i x E B' acc H' H'' _ hl e S' pv y => by
    obtain ⟨T, u, z, rfl, h2, rfl, e1, e2⟩ := y
    cases e1
    exact hs i z E T B' acc _ e2 hl e (S'.new h2 _) pv) hd
/-- over a list -/
theorem lc_LS {a : Addr} {ys : List V} {g : TG} {tt : TT} {vs : List Nat} (S : Hs B M H) (hx : Stay B M a (.lst ys)) (Pv : Nat → Hp → List V → Prop) (h0 : Pv 0 B [])
    (hs : ∀ (i : Nat) (x : V) (E : Addr) (B' : Hp) (acc : List V) (H' : Hp), ys[i]? = some x → acc.length ≤ i → Same B B' → Hs B' ((E, .lst acc) :: M) H' → Pv i B' acc → g x (wipe σ vs) H' fun σ2 H2 => wipe σ2 vs = wipe σ vs ∧ tt σ2 H2 fun b H3 =>
      if b = true then te σ2 H3 fun y H4 => LcP B M Pv (i + 1) E y H4 else LcN B M Pv (i + 1) E H3)
    (hd : ∀ (E : Addr) (B' : Hp) (acc : List V) (H' : Hp), Same B B' → Hs B' ((E, .lst acc) :: M) H' → acc.length ≤ ys.length → Pv ys.length B' acc → Q (.ref E) H') : LcJ (Itl K a) g tt te vs σ H Q :=
  lc_by (walk_list (K := K) (a := a) (xs := ys)) S Pv h0 (fun B' H' e S' => sqL_of (hx _ _ e S')) (fun i x E B' acc H' H'' _ hl e S' pv y => by
    obtain ⟨rfl, hx⟩ := y
    exact hs i x E B' acc _ hx hl e S' pv) hd
/-- over zip(xs, ys) -/
theorem lc_ZS {a b : Addr} {xs ys : List V} {g : TG} {tt : TT} {vs : List Nat} (S : Hs B M H) (hx : Stay B M a (.lst xs)) (hy : Stay B M b (.lst ys)) (hxy : xs.length = ys.length) (Pv : Nat → Hp → List V → Prop) (h0 : Pv 0 B [])
    (hs : ∀ (i : Nat) (x y : V) (E T : Addr) (B' : Hp) (acc : List V) (H' : Hp), xs[i]? = some x → ys[i]? = some y → acc.length ≤ i → Same B B' → Hs B' ((T, .tup [x, y]) :: (E, .lst acc) :: M) H' → Pv i B' acc → g (.ref T) (wipe σ vs) H' fun σ2 H2 => wipe σ2 vs = wipe σ vs ∧ tt σ2 H2 fun b H3 =>
      if b = true then te σ2 H3 fun y H4 => LcP B M Pv (i + 1) E y H4 else LcN B M Pv (i + 1) E H3)
    (hd : ∀ (E : Addr) (B' : Hp) (acc : List V) (H' : Hp), Same B B' → Hs B' ((E, .lst acc) :: M) H' → acc.length ≤ xs.length → Pv xs.length B' acc → Q (.ref E) H') : LcJ (Itz K a b) g tt te vs σ H Q :=
  lc_by (walk_zip (K := K) (a := a) (b := b) (xs := xs) (ys := ys) (n := xs.length) (by omega)) S Pv h0 (fun B' H' e S' => ⟨sqL_of (hx _ _ e S'), sqL_of (hy _ _ e S')⟩) (fun i x E B' acc H' H'' _ hl e S' pv y => by
    obtain ⟨T, u, z, rfl, h2, rfl, e1, e2⟩ := y
    exact hs i u z E T B' acc _ e1 e2 hl e (S'.new h2 _) pv) hd
/-! ### list + list, the left one of whatever standing -/
def rCatS (K : PySem.W.Frag) : R2 := fun x y H Q => ∃ a b xs ys, x = .ref a ∧ y = .ref b ∧ SqL K H a xs ∧ SqL K H b ys ∧ xs.length + ys.length ≤ sizeLine ∧ ∀ p, H p = none → Q (.ref p) (upd H p (.lst (xs ++ ys)))
theorem k_cat {X : Cx} (K : PySem.W.Frag) (e : X.K = K := by rfl) : OpR X (binaryOp .Add) (rCatS K) := by
  subst e
  intro pl s σ H x y v u Q I rx ry h
  obtain ⟨a, b, xs, ys, rfl, rfl, ha, hb, hz, q⟩ := h
  cases rx
  cases ry
  obtain ⟨its, r1, p1, z1⟩ := I.list ha
  obtain ⟨its2, r2, p2, z2⟩ := I.list hb
  have e1 := r1.length
  have e2 := r2.length
  obtain ⟨⟨c1, d1, t1, l1⟩, ho1, hc1, n1, hd1⟩ := p1.isList
  obtain ⟨⟨c2, d2, t2, l2⟩, ho2, hc2, n2, hd2⟩ := p2.isList
  simp only at hc1 hd1 hc2 hd2
  subst hc1 hd1 hc2 hd2
  have ej : its.toArray ++ its2.toArray = (its ++ its2).toArray := by simp
  refine concat_meets ⟨_, ho1, rfl⟩ ⟨_, ho2, rfl⟩ noFill_list_add seq_list_add PySem.F.slot_list_add PySem.F.entry_list_add (PySem.F.args_list_add_2 _ _) (list_addW a b its.toArray its2.toArray n1 n2 d1 d2 l1 l2 (by simp only [List.size_toArray]; omega)) ⟨ho1, ho2, ?_⟩
  rw [ej]
  exact ⟨.ref _, _, I.lnew (t' := s.toks) (r1.append r2) (by rw [List.length_append]; omega), rfl, q _ I.fresh⟩
theorem w_catS {p q : Addr} {xs ys : List V} (S : Hs B M H) (h : SqL K H p xs) (h2 : SqL K H q ys) (hl : xs.length + ys.length ≤ sizeLine) (k : ∀ z H', Hs B ((z, .lst (xs ++ ys)) :: M) H' → Q (.ref z) H') : rCatS K (.ref p) (.ref q) H Q :=
  ⟨p, q, xs, ys, rfl, rfl, h, h2, hl, fun z hz => k z _ (S.new hz _)⟩
/-! ### two things by a number 0 or 1 -/
def fset {α : Type} (f : Nat → α) (i : Nat) (v : α) : Nat → α := fun j => if j = i then v else f j
theorem fset_same {α : Type} {f : Nat → α} {i : Nat} {v : α} : fset f i v i = v := by unfold fset; rw [if_pos rfl]
theorem fset_ne {α : Type} {f : Nat → α} {i j : Nat} {v : α} (h : j ≠ i) : fset f i v j = f j := by unfold fset; rw [if_neg h]
theorem two_at {α : Type} (f : Nat → α) {i : Nat} (h : i < 2) : atI [f 0, f 1] (i : Int) = some (f i) := by
  have : i = 0 ∨ i = 1 := by omega
  rcases this with rfl | rfl <;> rfl
/-- if with a cut behind its test -/
theorem w_ifK {c : TT} {t u : TS} {D : Ends} {σ : L2.St} {H : Hp} (Pt Pf : Hp → Prop) (ht : ∀ H1, Pt H1 → t D σ H1) (hf : ∀ H1, Pf H1 → u D σ H1) (k : ∀ R : Bool → Hp → Prop, (∀ H1, Pt H1 → R true H1) → (∀ H1, Pf H1 → R false H1) → c σ H R) : tIfS c t u D σ H :=
  k _ (fun H1 h => iteT (ht H1 h)) (fun H1 h => iteF (hf H1 h))
/-- seq with a cut behind it -/
theorem w_seqK {t u : TS} {D : Ends} {σ : L2.St} {H : Hp} (Pv : L2.St → Hp → Prop) (h2 : ∀ σ' H', Pv σ' H' → u D σ' H') (k : ∀ R : L2.St → Hp → Prop, (∀ σ' H', Pv σ' H' → R σ' H') → t { D with nx := R } σ H) : tSeq t u D σ H := k (u D) h2
/-- all but what is changed -/
def minus (H : Hp) (M : List (Addr × HO)) : Hp := fun b => if b ∈ M.map (·.1) then none else H b
def AllL (M : List (Addr × HO)) : Prop := ∀ c ∈ M, ∃ xs, c.2 = .lst xs
theorem Hs.minus {M : List (Addr × HO)} (h : ∀ c ∈ M, H c.1 = some c.2) (nd : (M.map (·.1)).Nodup) : Hs (Rw.minus H M) M H := by
  refine ⟨fun b o e => ?_, fun c hc => ⟨?_, h c hc⟩, nd⟩
  · unfold Rw.minus at e
    split at e
    · cases e
    · exact e
  · unfold Rw.minus
    rw [if_pos (List.mem_map.mpr ⟨c, hc, rfl⟩)]
/-- behind a lambda: the tables have grown, the cells are as they were -/
theorem Hs.lam {H1 : Hp} {Pt : Addr} {q : Str} (S : Hs B M H) (hm : AllL M) (e : LamX.ExtN H H1) (t : LamX.TabS H1 Pt q) : ∃ B1, LamX.ExtN B B1 ∧ LamX.TabS B1 Pt q ∧ Hs B1 M H1 := by
  have keep : ∀ c ∈ M, H1 c.1 = some c.2 := fun c hc => by
    obtain ⟨xs, hx⟩ := hm c hc
    exact e _ _ (S.cel c hc).2 (by rw [hx]; intro ps z; cases z)
  have off : ∀ {b : Addr} {o : HO}, H1 b = some o → (∀ xs, o ≠ .lst xs) → b ∉ M.map (·.1) := fun {b o} hb hn hm2 => by
    obtain ⟨c, hc, rfl⟩ := List.mem_map.mp hm2
    obtain ⟨xs, hx⟩ := hm c hc
    rw [keep c hc, hx] at hb
    exact hn xs (Option.some.inj hb).symm
  refine ⟨Rw.minus H1 M, fun b o hb n => ?_, ?_, Hs.minus keep S.nd⟩
  · unfold Rw.minus
    rw [if_neg]
    · exact e b o (S.ex b o hb) n
    · intro hm2
      obtain ⟨c, hc, rfl⟩ := List.mem_map.mp hm2
      rw [(S.cel c hc).1] at hb
      cases hb
  · obtain ⟨ps, h1, h2, h3⟩ := t
    refine ⟨ps, ?_, h2, fun pos cv hc => ?_⟩
    · unfold Rw.minus
      rw [if_neg (off h1 (by intro xs z; cases z))]
      exact h1
    · obtain ⟨c, e1, e2⟩ := h3 pos cv hc
      refine ⟨c, e1, ?_⟩
      unfold Rw.minus
      rw [if_neg (off e2 (by unfold LamX.CodeO; intro xs z; cases z))]
      exact e2
end
end Rw

/-! Rw: dicts by written keys, for over zip, == of tuples. -/
namespace Rw
open PySem PySem.Spec PyProof.Rows L2
section
variable {K : PySem.W.Frag} {σ : L2.St} {H : Hp} {Q : VK} {B : Hp} {M : List (Addr × HO)} {D : Ends} {p : Addr}
def DgX (o y : V) (H : Hp) (Q : VK) : Prop := ∃ a v, o = .ref a ∧ DGet H a y (some v) ∧ Q v H
theorem w_dget {td ty : TE} (k : td σ H fun o H1 => ty σ H1 fun y H2 => DgX o y H2 Q) : tDGet td ty σ H Q := k
theorem w_dgetE {kvs : List (Key × V)} {f : Str} {v : V} (h : H p = some (.dK kvs)) (hv : valV kvs (.inr f) = some v) (k : Q v H) : DgX (.ref p) (.str f) H Q := ⟨p, v, rfl, .inl ⟨kvs, .inr f, .inl h, rfl, hv.symm⟩, k⟩
def DispP (p : Addr) (ps : List (V × V)) (H2 : Hp) (Q : VK) : Prop := H2 p = some (.dK []) ∧ ∃ kvs : List (Key × V), ps = kvs.map (fun kv => (kV kv.1, kv.2)) ∧ kvs.length ≤ 15 ∧ Q (.ref p) (upd H2 p (.dK (mergeK [] kvs)))
def NewD (trs : List (TE × TE)) (σ : L2.St) (H : Hp) (Q : VK) : Prop := ∀ p, H p = none → tPairs trs σ (upd H p (.dK [])) fun ps H2 => DispP p ps H2 Q
theorem w_disp {trs : List (TE × TE)} (k : NewD trs σ H Q) : tDisp trs σ H Q := k
theorem w_dispE {trs : List (TE × TE)} (S : Hs B M H) (k : ∀ p H', Hs B ((p, .dK []) :: M) H' → tPairs trs σ H' fun ps H2 => DispP p ps H2 Q) : NewD trs σ H Q := fun p hp => k p _ (S.new hp _)
theorem w_pair {tk tv : TE} {r : List (TE × TE)} {R : List (V × V) → Hp → Prop} (k : tk σ H fun x H1 => tv σ H1 fun y H2 => tPairs r σ H2 fun ps H3 => R ((x, y) :: ps) H3) : tPairs ((tk, tv) :: r) σ H R := k
theorem w_pair0 {R : List (V × V) → Hp → Prop} (k : R [] H) : tPairs [] σ H R := k
theorem w_dispZ {kvs : List (Key × V)} (S : Hs B M H) (i : Nat) (h : M[i]? = some (p, .dK [])) (hl : kvs.length ≤ 15) (k : ∀ H', Hs B (M.set i (p, .dK (mergeK [] kvs))) H' → Q (.ref p) H') : DispP p (kvs.map (fun kv => (kV kv.1, kv.2))) H Q :=
  ⟨S.get i h, kvs, rfl, hl, k _ (S.put i _ h)⟩
/-- for a, b in zip(xs, ys) -/
theorem for_zp {a b : Addr} {xs ys : List V} {g : TG} {tb : TS} (hxy : xs.length = ys.length) (Pv : Nat → L2.St → Hp → Prop) (h0 : Pv 0 σ H) (hl : ∀ i σ H, i ≤ xs.length → Pv i σ H → SqL K H a xs ∧ SqL K H b ys)
    (hs : ∀ (i : Nat) (x y : V) (σ : L2.St) (H : Hp) (T : Addr), xs[i]? = some x → ys[i]? = some y → Pv i σ H → H T = none → g (.ref T) σ (upd H T (.tup [x, y])) fun σ2 H2 => tb { D with nx := Pv (i + 1), ct := Pv (i + 1), bk := D.nx } σ2 H2) (hd : ∀ σ H, Pv xs.length σ H → D.nx σ H) : ForJ (Itz K a b) g tb D σ H :=
  for_it (walk_zip (n := xs.length) (by omega)) Pv h0 hl (fun i x σ H H' hi h y => by
    obtain ⟨T, u, z, rfl, h2, rfl, e1, e2⟩ := y
    exact hs i u z σ H T e1 e2 h h2) hd
end
/-! ### comprehensions that make things to be changed later -/
section
variable {K : PySem.W.Frag} {σ : L2.St} {H : Hp} {Q : VK} {B : Hp} {M : List (Addr × HO)} {te : TE}
def LcPM (B : Hp) (Pv : Nat → Hp → List (Addr × HO) → List V → Prop) (i : Nat) (E : Addr) (y : V) (H4 : Hp) : Prop := ∃ acc, H4 E = some (.lst acc) ∧ acc.length < sizeLine ∧ ∃ B' M' acc', Same B B' ∧ acc'.length ≤ i ∧ Hs B' ((E, .lst acc') :: M') (upd H4 E (.lst (acc ++ [y]))) ∧ Pv i B' M' acc'
theorem lcpM {Pv : Nat → Hp → List (Addr × HO) → List V → Prop} {i : Nat} {E : Addr} {y : V} {acc : List V} {B4 : Hp} {M4 : List (Addr × HO)} (S4 : Hs B4 ((E, .lst acc) :: M4) H) (e : Same B B4) (hl : acc.length ≤ i) (hi : i < 1000) (pv : Pv (i + 1) B4 M4 (acc ++ [y])) : LcPM B Pv (i + 1) E y H :=
  ⟨acc, S4.get 0, len_lt (by omega), B4, M4, acc ++ [y], e, by simp; omega, S4.put 0 _, pv⟩
def LcNM (B : Hp) (Pv : Nat → Hp → List (Addr × HO) → List V → Prop) (i : Nat) (E : Addr) (H3 : Hp) : Prop := ∃ B' M' acc', Same B B' ∧ acc'.length ≤ i ∧ Hs B' ((E, .lst acc') :: M') H3 ∧ Pv i B' M' acc'
theorem lc_RM {n : Nat} {g : TG} {tt : TT} {vs : List Nat} (S : Hs B M H) (Pv : Nat → Hp → List (Addr × HO) → List V → Prop) (h0 : Pv 0 B M [])
    (hs : ∀ (i : Nat) (E : Addr) (B' : Hp) (M' : List (Addr × HO)) (acc : List V) (H' : Hp), i < n → acc.length ≤ i → Same B B' → Hs B' ((E, .lst acc) :: M') H' → Pv i B' M' acc → g (.int (i : Int)) (wipe σ vs) H' fun σ2 H2 => wipe σ2 vs = wipe σ vs ∧ tt σ2 H2 fun b H3 =>
      if b = true then te σ2 H3 fun y H4 => LcPM B Pv (i + 1) E y H4 else LcNM B Pv (i + 1) E H3)
    (hd : ∀ (E : Addr) (B' : Hp) (M' : List (Addr × HO)) (acc : List V) (H' : Hp), Same B B' → Hs B' ((E, .lst acc) :: M') H' → acc.length ≤ n → Pv n B' M' acc → Q (.ref E) H') : LcJ (Itr 0 n) g tt te vs σ H Q := by
  intro E hE
  refine lc_it (walk_range (lo := 0) (n := n)) (fun i H' => ∃ B' M' acc, Same B B' ∧ acc.length ≤ i ∧ Hs B' ((E, .lst acc) :: M') H' ∧ Pv i B' M' acc) ⟨B, M, [], Same.refl B, Nat.le_refl _, S.new hE _, h0⟩ (fun _ _ _ _ => trivial) ?_ ?_
  · rintro i x H' H'' hi ⟨B', M', acc, e, hl, S', pv⟩ ⟨rfl, rfl⟩
    show g (.int (0 + (i : Int))) _ _ _
    rw [Int.zero_add]
    exact hs i E B' M' acc _ hi hl e S' pv
  · rintro H' ⟨B', M', acc, e, hl, S', pv⟩
    exact hd E B' M' acc H' e S' hl pv
end
/-! ### == of tuples of ints -/
def dT (xs : List Int) : PyData := .tuple (xs.map .int)
theorem dp_tup {K : PySem.W.Frag} {H : Hp} {p : Addr} {xs : List Int} (h : H p = some (.tup (xs.map V.int))) : Dp K H (.ref p) (dT xs) := .tup (sqT_of h) (dpAll_ints xs)
theorem shp_dT (xs : List Int) : Shp 1 (dT xs) := shp_tup fun d hd => by
  obtain ⟨i, _, rfl⟩ := List.mem_map.mp hd
  exact shp_int i
theorem eqv_dT (xs ys : List Int) : PyData.eqv (dT xs) (dT ys) = decide (xs = ys) := by
  unfold dT
  simp only [PyData.eqv]
  exact eqvAll_ints xs ys
theorem w_eqT {K : PySem.W.Frag} {H : Hp} {Q : VK} {p q : Addr} {xs ys : List Int} (h : H p = some (.tup (xs.map V.int))) (h2 : H q = some (.tup (ys.map V.int))) (k : Q (.bl (decide (xs = ys))) H) : rEqD K (.ref p) (.ref q) H Q :=
  w_eqD (dp_tup h) (dp_tup h2) (shp_dT _).shaped (shp_dT _).shaped (by rw [eqv_dT]; exact k)
theorem w_neT {K : PySem.W.Frag} {H : Hp} {Q : VK} {p q : Addr} {xs ys : List Int} (h : H p = some (.tup (xs.map V.int))) (h2 : H q = some (.tup (ys.map V.int))) (k : Q (.bl (!decide (xs = ys))) H) : rNeD K (.ref p) (.ref q) H Q :=
  w_neD (dp_tup h) (dp_tup h2) (shp_dT _).shaped (shp_dT _).shaped (by rw [eqv_dT]; exact k)
/-- a list of tuples of ints against [] -/
theorem dpAll_tups {K : PySem.W.Frag} {H : Hp} : ∀ {ts : List Addr} {xss : List (List Int)}, Paired (fun t xs => H t = some (.tup (xs.map V.int))) ts xss → DpAll K H (ts.map V.ref) (xss.map dT)
  | _, _, .nil => .nil
  | _, _, .cons r t => .cons (dp_tup r) (dpAll_tups t)
theorem shp_dLT (xss : List (List Int)) : Shp 2 (.list (xss.map dT)) := shp_list fun d hd => by
  obtain ⟨i, _, rfl⟩ := List.mem_map.mp hd
  exact shp_dT i
theorem eqvAll_nil {ds : List PyData} : PyData.eqvAll ds [] = decide (ds = []) := by
  cases ds with
  | nil => simp [PyData.eqvAll]
  | cons d ds => simp [PyData.eqvAll]
theorem w_eqN {K : PySem.W.Frag} {H : Hp} {Q : VK} {p q : Addr} {ts : List Addr} {xss : List (List Int)} (h : H p = some (.lst (ts.map V.ref))) (ht : Paired (fun t xs => H t = some (.tup (xs.map V.int))) ts xss) (h2 : H q = some (.lst [])) (k : Q (.bl (decide (ts = []))) H) : rEqD K (.ref p) (.ref q) H Q :=
  w_eqD (.lst (sqL_of h) (dpAll_tups ht)) (.lst (sqL_of h2) .nil) (shp_dLT _).shaped (by decide +kernel) (by
    simp only [PyData.eqv]
    rw [eqvAll_nil]
    have e : (xss.map dT = []) ↔ ts = [] := by cases ht <;> simp
    rw [decide_eq_decide.mpr e]
    exact k)
theorem w_neN {K : PySem.W.Frag} {H : Hp} {Q : VK} {p q : Addr} {ts : List Addr} {xss : List (List Int)} (h : H p = some (.lst (ts.map V.ref))) (ht : Paired (fun t xs => H t = some (.tup (xs.map V.int))) ts xss) (h2 : H q = some (.lst [])) (k : Q (.bl (!decide (ts = []))) H) : rNeD K (.ref p) (.ref q) H Q :=
  w_neD (.lst (sqL_of h) (dpAll_tups ht)) (.lst (sqL_of h2) .nil) (shp_dLT _).shaped (by decide +kernel) (by
    simp only [PyData.eqv]
    rw [eqvAll_nil]
    have e : (xss.map dT = []) ↔ ts = [] := by cases ht <;> simp
    rw [decide_eq_decide.mpr e]
    exact k)
end Rw

/-! a dict whose keys are (place, hands): tuples of a number and a tuple of numbers -/
namespace Rw
open PySem PySem.Spec PyProof.Rows L2
/-- an entry: the key's place and hands, where the key stands, the number under it -/
structure En where
  i : Int
  hs : List Int
  a : Addr
  n : Int
def stK (i : Int) (hs : List Int) : NestedKey := .tup [.num i, .tup (hs.map .num)]
theorem map_num_inj : ∀ {xs ys : List Int}, xs.map NestedKey.num = ys.map NestedKey.num → xs = ys
  | [], [], _ => rfl
  | x :: xs, y :: ys, h => by
    rw [List.map_cons, List.map_cons] at h
    have h1 := NestedKey.num.inj (List.cons.inj h).1
    rw [h1, map_num_inj (List.cons.inj h).2]
  | [], _ :: _, h => by cases h
  | _ :: _, [], h => by cases h
theorem stK_eq {i j : Int} {xs ys : List Int} : stK i xs = stK j ys ↔ (i = j ∧ xs = ys) := by
  constructor
  · intro h
    have h1 := (List.cons.inj (NestedKey.tup.inj h)).1
    have h2 := (List.cons.inj (List.cons.inj (NestedKey.tup.inj h)).2).1
    exact ⟨NestedKey.num.inj h1, map_num_inj (NestedKey.tup.inj h2)⟩
  · rintro ⟨rfl, rfl⟩; rfl
theorem depth_nums : ∀ xs : List Int, NestedKey.depthAll (xs.map NestedKey.num) = 0
  | [] => rfl
  | _ :: xs => by
    rw [List.map_cons, NestedKey.depthAll, depth_nums xs]
    rfl
theorem stK_depth (i : Int) (xs : List Int) : (stK i xs).depth ≤ 8 := by
  unfold stK
  simp [NestedKey.depth, NestedKey.depthAll, depth_nums]
/-- at a: the tuple of the place and the tuple of the hands -/
def KeyA (H : Hp) (a : Addr) (i : Int) (hs : List Int) : Prop := ∃ b, H a = some (.tup [.int i, .ref b]) ∧ H b = some (.tup (hs.map V.int))
theorem KeyA.up {H H' : Hp} {a : Addr} {i : Int} {hs : List Int} (h : KeyA H a i hs) (e : Same H H') : KeyA H' a i hs := by
  obtain ⟨b, h1, h2⟩ := h
  exact ⟨b, e _ _ h1, e _ _ h2⟩
theorem nums_all {h : Heap} : ∀ {hs : List Int} {us : List Value}, Vals (hs.map V.int) us → NestedAll h (hs.map NestedKey.num) us
  | [], _, r => by cases r; exact .nil
  | x :: hs, _, r => by
    rw [List.map_cons] at r
    cases r with
    | cons r1 r2 =>
      obtain ⟨t, rfl⟩ := r1
      exact .cons (.int _ _) (nums_all r2)
theorem key_is {P : Program} {w : World} {H : Hp} {h : Heap} {a : Addr} {i : Int} {hs : List Int} (ok : HOk P w H h) (k : KeyA H a i hs) : (nestedKind P w).is h (stK i hs) a := by
  obtain ⟨b, h1, h2⟩ := k
  obtain ⟨_, its1, r1, o1, e1, c1, n1, d1⟩ := ok _ _ h1
  obtain ⟨_, its2, r2, o2, e2, c2, n2, d2⟩ := ok _ _ h2
  refine ⟨.tup e1 c1 d1 ?_, stK_depth _ _⟩
  cases r1 with
  | cons q1 r1 =>
    cases r1 with
    | cons q2 r1 =>
      cases r1
      obtain ⟨t, rfl⟩ := q1
      cases q2
      exact .cons (.int _ _) (.cons (.tup e2 c2 d2 (nums_all r2)) .nil)
/-- the entries, in order -/
def EnR (e : En) (q : NestedKey × Addr × Value) : Prop := q.1 = stK e.i e.hs ∧ q.2.1 = e.a ∧ ∃ t, q.2.2 = .int e.n t
def DN (P : Program) (w : World) (d : Addr) (ks : List En) : HO := .ext fun h => (d == sysModules) = false ∧ ∃ xs : List (NestedKey × Addr × Value), Paired EnR ks xs ∧ (∃ o es ep, h.get? d = some o ∧ o.ExactDict ∧ o.data = .dict es ep ∧ es.toList = xs.map (entryOfKey (nestedKind P w)) ∧ (xs.map (·.1)).Nodup)
theorem dn_ok {P : Program} {w : World} {H : Hp} {h : Heap} {d : Addr} {ks : List En} {xs : List (NestedKey × Addr × Value)} (hd : (d == sysModules) = false) (r : Paired EnR ks xs) (D : h.DictOfH (nestedKind P w) d xs) : ObjOk P w H h d (DN P w d ks) := by
  obtain ⟨o, es, ep, h1, h2, h3, h4, h5, h6⟩ := D
  exact ⟨⟨hd, xs, r, o, es, ep, h1, h2, h3, h4, h6⟩, ⟨o, h1⟩, fun g1 g2 ⟨q1, ys, q2, o', es', ep', q3, q4⟩ k => ⟨q1, ys, q2, o', es', ep', k _ q3, q4⟩⟩
theorem keys_of {P : Program} {w : World} {H : Hp} {h : Heap} (ok : HOk P w H h) : ∀ {ks : List En} {xs : List (NestedKey × Addr × Value)}, Paired EnR ks xs → (∀ e ∈ ks, KeyA H e.a e.i e.hs) → ∀ x ∈ xs, (nestedKind P w).is h x.1 x.2.1
  | _, _, .nil, _ => fun x hx => nomatch hx
  | _, _, .cons (a := e) (b := q) r t, hk => fun x hx => by
    rcases List.mem_cons.mp hx with rfl | hx
    · rw [r.1, r.2.1]
      exact key_is ok (hk _ List.mem_cons_self)
    · exact keys_of ok t (fun e he => hk e (List.mem_cons_of_mem _ he)) x hx
theorem dn_of {P : Program} {w : World} {H : Hp} {h : Heap} {d : Addr} {ks : List En} (ok : HOk P w H h) (hd : H d = some (DN P w d ks)) (hk : ∀ e ∈ ks, KeyA H e.a e.i e.hs) :
    (d == sysModules) = false ∧ ∃ xs : List (NestedKey × Addr × Value), Paired EnR ks xs ∧ h.DictOfH (nestedKind P w) d xs := by
  obtain ⟨⟨q1, xs, q2, o, es, ep, q3, q4, q5, q6, q7⟩, _⟩ := ok _ _ hd
  exact ⟨q1, xs, q2, o, es, ep, q3, q4, q5, q6, keys_of ok q2 hk, q7⟩
/-- the entry of a key -/
def found (ks : List En) (i : Int) (hs : List Int) : Option En := ks.find? fun e => decide (e.i = i ∧ e.hs = hs)
theorem found_nil {i : Int} {hs : List Int} : found [] i hs = none := rfl
theorem found_some {ks : List En} {i : Int} {hs : List Int} {e : En} (h : found ks i hs = some e) : e ∈ ks ∧ e.i = i ∧ e.hs = hs := by
  unfold found at h
  exact ⟨List.mem_of_find?_eq_some h, of_decide_eq_true (List.find?_some (p := fun e : En => decide (e.i = i ∧ e.hs = hs)) h)⟩
theorem found_none {ks : List En} {i : Int} {hs : List Int} (h : ∀ e ∈ ks, ¬ (e.i = i ∧ e.hs = hs)) : found ks i hs = none := by
  unfold found
  refine List.find?_eq_none.mpr fun e he => ?_
  simpa using h e he
theorem at_found {i : Int} {hs : List Int} : ∀ {ks : List En} {xs : List (NestedKey × Addr × Value)}, Paired EnR ks xs →
    (found ks i hs = none ∧ atKey xs (stK i hs) = none) ∨ ∃ (e : En) (t : Tok), found ks i hs = some e ∧ atKey xs (stK i hs) = some (e.a, .int e.n t)
  | _, _, .nil => .inl ⟨rfl, rfl⟩
  | _, _, .cons (a := e) (b := q) (l₁ := ks) (l₂ := xs) r t => by
    obtain ⟨r1, r2, tk, r3⟩ := r
    obtain ⟨q1, q2, q3⟩ := q
    dsimp only at r1 r2 r3
    subst r1 r2 r3
    by_cases c : e.i = i ∧ e.hs = hs
    · refine .inr ⟨e, tk, ?_, ?_⟩
      · unfold found; rw [List.find?_cons_of_pos (by simpa using c)]
      · unfold atKey; rw [List.find?_cons_of_pos (by simpa using stK_eq.mpr c)]; rfl
    · have e1 : found (e :: ks) i hs = found ks i hs := by unfold found; rw [List.find?_cons_of_neg (by simpa using c)]
      have e2 : atKey ((stK e.i e.hs, e.a, Value.int e.n tk) :: xs) (stK i hs) = atKey xs (stK i hs) := by
        unfold atKey; rw [List.find?_cons_of_neg (by simpa [stK_eq] using c)]
      rw [e1, e2]
      exact at_found t
theorem Paired.push1 {α β : Type} {F : α → β → Prop} {x : α} {y : β} (r : F x y) : ∀ {l₁ : List α} {l₂ : List β}, Paired F l₁ l₂ → Paired F (l₁ ++ [x]) (l₂ ++ [y])
  | _, _, .nil => .cons r .nil
  | _, _, .cons q t => .cons q (Paired.push1 r t)
/-! ### readings -/
/-- (place, hands) not in d -/
def rNotInN (P : Program) (w : World) : R2 := fun x y H Q => ∃ (a d : Addr) (i : Int) (hs : List Int) (ks : List En), x = .ref a ∧ y = .ref d ∧ KeyA H a i hs ∧ H d = some (DN P w d ks) ∧ (∀ e ∈ ks, KeyA H e.a e.i e.hs) ∧ Q (.bl (!(found ks i hs).isSome)) H
/-- d[(place, hands)], there -/
def tDGetN (P : Program) (w : World) (td ty : TE) : TE := fun σ H Q => td σ H fun x H1 => ty σ H1 fun y H2 => ∃ (a d : Addr) (i : Int) (hs : List Int) (ks : List En) (e : En), x = .ref d ∧ y = .ref a ∧ KeyA H2 a i hs ∧ H2 d = some (DN P w d ks) ∧ (∀ e ∈ ks, KeyA H2 e.a e.i e.hs) ∧ found ks i hs = some e ∧ Q (.int e.n) H2
/-- d[(place, hands)] = n, of a key that is new -/
def rSetN (P : Program) (w : World) : V → V → V → Hp → (Hp → Prop) → Prop := fun o i v H Q => ∃ (a d : Addr) (j : Int) (hs : List Int) (ks : List En) (n : Int), o = .ref d ∧ i = .ref a ∧ v = .int n ∧ KeyA H a j hs ∧ H d = some (DN P w d ks) ∧ (∀ e ∈ ks, KeyA H e.a e.i e.hs) ∧ found ks j hs = none ∧ ks.length < 1000000 ∧
  Q (upd H d (DN P w d (ks ++ [⟨j, hs, a, n⟩])))
/-- {} -/
def tDNewN (P : Program) (w : World) : TE := fun _ H Q => ∀ p, H p = none → Q (.ref p) (upd H p (DN P w p []))
section
variable {X : Cx} {o i : Expr} {pos : Pos} {td ty : TE}
theorem room_n {X : Cx} (hu : X.A.units + 64 < cLine) : (nestedKind X.prog X.w).room X.A.in1 := by
  show X.A.in1.units + 8 < cLine
  rw [Around.in1_units]
  omega
theorem k_notInN (P : Program) (w : World) (hu : X.A.units + 64 < cLine) (e1 : X.prog = P := by rfl) (e2 : X.w = w := by rfl) : OpR X (compareOp .NotIn) (rNotInN P w) := by
  subst e1 e2
  intro pins s σ H x y v u Q I rx ry h
  obtain ⟨a, d, i, hs, ks, rfl, rfl, hk, hd, hks, q⟩ := h
  cases rx
  cases ry
  obtain ⟨hs1, xs, r, D⟩ := dn_of I.hok hd hks
  refine notIn_keyed (room_n hu) (key_is I.hok hk) hs1 ⟨xs, D, rfl⟩ ?_
  have e : (valueAt (pairsH xs) (stK i hs)).isSome = (found ks i hs).isSome := by
    rw [valueAt_pairsH, Option.isSome_map]
    rcases at_found (i := i) (hs := hs) r with ⟨h1, h2⟩ | ⟨e, t, h1, h2⟩
    · rw [h1, h2]; rfl
    · rw [h1, h2]; rfl
  rw [e]
  exact ⟨.bl _, H, I.tok _, rfl, q⟩
theorem pe_dgetN (P : Program) (w : World) (hu : X.A.units + 64 < cLine) (ho : PE X o td) (hi : PE X i ty) (hs : NoSl i) (e1 : X.prog = P := by rfl) (e2 : X.w = w := by rfl) : PE X (.Subscript o i pos) (tDGetN P w td ty) := by
  subst e1 e2
  refine ⟨fun pins s σ H Q I h => ?_⟩
  refine subD_of PySem.F.slot_dict_getitem.lookup hs (thn (ho.run pins s σ H _ I h) fun u s1 ⟨x, H1, I1, rx, q1⟩ => thn (hi.run pins s1 σ H1 _ I1 q1) fun iv s2 ⟨y, H2, I2, ry, a, d, j, hj, ks, e, ex, ey, hk, hd, hks, hf, q2⟩ => ?_)
  subst ex ey
  obtain rfl : u = Value.ref d := rx
  obtain rfl : iv = Value.ref a := ry
  obtain ⟨hs1, xs, r, D⟩ := dn_of I2.hok hd hks
  refine ⟨D.typeIs, ?_⟩
  rcases at_found (i := j) (hs := hj) r with ⟨h1, h2⟩ | ⟨e', t, h1, h2⟩
  · rw [h1] at hf; cases hf
  · rw [h1] at hf
    cases hf
    refine getItem_keyed (room_n hu) (key_is I2.hok hk) ⟨xs, D, rfl⟩ (v := .int e.n t) ?_ ?_
    · rw [valueAt_pairsH, h2]; rfl
    · exact ⟨.int e.n, H2, I2.tok _, ⟨t, rfl⟩, q2⟩
theorem set_dN (P : Program) (w : World) (hu : X.A.units + 64 < cLine) (e1 : X.prog = P := by rfl) (e2 : X.w = w := by rfl) : PSet X (rSetN P w) := by
  subst e1 e2
  intro pins s σ H o i v ov iv u Q I ro ri rv h
  obtain ⟨a, d, j, hs, ks, n, rfl, rfl, rfl, hk, hd, hks, hf, hn, q⟩ := h
  cases ro
  cases ri
  obtain ⟨t, rfl⟩ := rv
  obtain ⟨hs1, xs, r, D⟩ := dn_of I.hok hd hks
  have hl := Paired.length r
  have h2 : atKey xs (stK j hs) = none := by
    rcases at_found (i := j) (hs := hs) r with ⟨_, h2⟩ | ⟨e, t, h1, _⟩
    · exact h2
    · rw [hf] at h1; cases h1
  have hz : xs.length ≤ sizeLine := by rw [sizeLine_eq]; omega
  refine wpAny_setItem_heap (hsz := hz) (room_n hu) (key_is I.hok hk) D fun h' D' hs' => ?_
  rw [storedH_new h2] at D'
  have hq : ∃ q, h'.get? d = some q := let ⟨q, _, _, hq, _⟩ := D'; ⟨q, hq⟩
  exact ⟨_, d_write I (by rw [hd]; exact True.intro) hs' hq (dn_ok hs1 (Paired.push1 ⟨rfl, rfl, t, rfl⟩ r) D'), q⟩
theorem pe_dnewN (P : Program) (w : World) (e1 : X.prog = P := by rfl) (e2 : X.w = w := by rfl) : PE X (.Dict [] [] pos) (tDNewN P w) := by
  subst e1 e2
  exact ⟨fun pins s σ H Q I h =>
  wpAny_Dict_empty ⟨.ref s.heap.objs.size, _, I.laid (a := s.heap.objs.size) (o := DN X.prog X.w s.heap.objs.size []) (t' := s.toks) (fun _ _ q => Heap.get?_push_of_some _ q) (Nat.le_refl _)
    (dn_ok (beq_eq_false_iff_ne.mpr (Ne.symm (Nat.ne_of_lt I.big))) .nil (Heap.DictOfH.new s.heap)), rfl, h _ (I.hok.fresh (Nat.le_refl _))⟩⟩
end
/-! ### walking -/
section
variable {P : Program} {w : World} {B H : Hp} {M : List (Addr × HO)} {Q : VK} {σ : L2.St} {td ty : TE}
theorem w_dnewN (S : Hs B M H) (k : ∀ (p : Addr) (H' : Hp), Hs B ((p, DN P w p []) :: M) H' → Q (.ref p) H') : tDNewN P w σ H Q := fun p hp => k p _ (S.new hp _)
theorem w_notInN {a d : Addr} {i : Int} {hs : List Int} {ks : List En} (hk : KeyA H a i hs) (hd : H d = some (DN P w d ks)) (hks : ∀ e ∈ ks, KeyA H e.a e.i e.hs) (k : Q (.bl (!(found ks i hs).isSome)) H) : rNotInN P w (.ref a) (.ref d) H Q := ⟨a, d, i, hs, ks, rfl, rfl, hk, hd, hks, k⟩
theorem w_setN {a d : Addr} {j n : Int} {hs : List Int} {ks : List En} {R : Hp → Prop} (S : Hs B M H) (i : Nat) (hd : M[i]? = some (d, DN P w d ks)) (hk : KeyA H a j hs) (hks : ∀ e ∈ ks, KeyA H e.a e.i e.hs) (hf : found ks j hs = none) (hl : ks.length < 1000000)
    (k : ∀ H', Hs B (M.set i (d, DN P w d (ks ++ [⟨j, hs, a, n⟩]))) H' → R H') : rSetN P w (.ref d) (.ref a) (.int n) H R :=
  ⟨a, d, j, hs, ks, n, rfl, rfl, rfl, hk, S.get i hd, hks, hf, hl, k _ (S.put i _ hd)⟩
theorem w_dgetN (k : td σ H fun x H1 => ty σ H1 fun y H2 => ∃ (a d : Addr) (i : Int) (hs : List Int) (ks : List En) (e : En), x = .ref d ∧ y = .ref a ∧ KeyA H2 a i hs ∧ H2 d = some (DN P w d ks) ∧ (∀ e ∈ ks, KeyA H2 e.a e.i e.hs) ∧ found ks i hs = some e ∧ Q (.int e.n) H2) : tDGetN P w td ty σ H Q := k
end
end Rw

/-! sets of tuples: made of a list, their size -/
namespace Rw
open PySem PySem.Spec PyProof.Rows L2
/-- len(s), s a set of tuples of ints -/
def rLenT (P : Program) (w : World) (K : PySem.W.Frag) : List V → Hp → VK → Prop := fun xs H Q => ∃ (a : Addr) (L : List (Addr × List Int)), xs = [.ref a] ∧ H a = some (SetTO P w a L) ∧ (∀ p ∈ L, SqT K H p.1 (p.2.map V.int)) ∧ ((L.map (·.2)).Nodup → Q (.int (L.length : Nat)) H)
theorem k_lenT {X : Cx} (P : Program) (w : World) (K : PySem.W.Frag) (e1 : X.prog = P := by rfl) (e2 : X.w = w := by rfl) (e3 : X.K = K := by rfl) : CallR X (.builtin "len") (rLenT P w K) := by
  subst e1 e2 e3
  intro pins s σ H xs us Q I r h
  obtain ⟨a, L, rfl, ha, hk, q⟩ := h
  have R0 : SetT0 X.prog X.w s.heap a L := (I.hok a _ ha).1
  obtain ⟨es, ep, t, R⟩ := R0.full fun p hp => I.isT (hk p hp)
  rw [Vals.ref1 r]
  obtain ⟨o, ho, hex, hd⟩ := R.ob
  have hn : es.size = L.length := by
    have := congrArg List.length R.rows
    unfold rowsOf at this
    simpa using this
  refine call_len_set ho hex hd R.fits (by rw [hn]; have := R.few; omega) ?_
  rw [hn]
  exact ⟨.int _, H, I.tok _, ⟨_, rfl⟩, q R.nd⟩
theorem k_setT {X : Cx} (P : Program) (w : World) (K : PySem.W.Frag) (hc : X.calm = true) (hu : X.A.units + 64 < cLine) (e1 : X.prog = P := by rfl) (e2 : X.w = w := by rfl) (e3 : X.K = K := by rfl) : CallR X (.type "set") (rSetOfT K P w) := by
  subst e1 e2 e3
  exact cr_setOfT hc hu
theorem nodup_len {β : Type} [DecidableEq β] : ∀ {xs ys : List β}, xs.Nodup → (∀ x ∈ xs, x ∈ ys) → xs.length ≤ ys.length
  | [], _, _, _ => Nat.zero_le _
  | x :: xs, ys, nd, h => by
    obtain ⟨n1, n2⟩ := List.nodup_cons.mp nd
    have hx := h x List.mem_cons_self
    have r := nodup_len (ys := ys.erase x) n2 fun y hy => (List.mem_erase_of_ne (fun e : y = x => n1 (by rw [← e]; exact hy))).mpr (h y (List.mem_cons_of_mem _ hy))
    rw [List.length_erase_of_mem hx] at r
    have : 0 < ys.length := List.length_pos_of_mem hx
    simp only [List.length_cons]
    omega
/-- as many as there are, where all are unlike -/
theorem same_len {α β : Type} [DecidableEq β] {f : α → β} {L ks : List α} (h1 : (L.map f).Nodup) (h2 : (ks.map f).Nodup) (h3 : ∀ p ∈ L, p ∈ ks) (h4 : ∀ p ∈ ks, f p ∈ L.map f) : L.length = ks.length := by
  have a := nodup_len h1 (ys := ks.map f) fun x hx => by
    obtain ⟨p, hp, rfl⟩ := List.mem_map.mp hx
    exact List.mem_map.mpr ⟨p, h3 p hp, rfl⟩
  have b := nodup_len h2 (ys := L.map f) fun x hx => by
    obtain ⟨p, hp, rfl⟩ := List.mem_map.mp hx
    exact h4 p hp
  simp only [List.length_map] at a b
  omega
section
variable {P : Program} {w : World} {K : PySem.W.Frag} {B H : Hp} {M : List (Addr × HO)} {Q : VK}
/-- len(set(xs)), xs a list of tuples that are all unlike -/
theorem w_lenSetT {l : Addr} {ks : List (Addr × List Int)} {R : VK} (hR : ∀ x H1, rLenT P w K [x] H1 Q → R x H1) (S : Hs B M H) (hl : SqL K H l (ks.map fun p => V.ref p.1)) (hk : ∀ p ∈ ks, B p.1 = some (.tup (p.2.map V.int))) (hf : ks.length < 64) (nd : (ks.map (·.2)).Nodup) (k : ∀ H', Hs B M H' → Q (.int (ks.length : Nat)) H') :
    rSetOfT K P w [.ref l] H R := by
  refine ⟨l, ks, rfl, hl, fun p hp => sqT_of (S.ex _ _ (hk p hp)), hf, fun a L ha h1 h2 => ?_⟩
  have S1 := S.new ha (SetTO P w a L)
  refine hR _ _ ⟨a, L, rfl, upd_same, fun p hp => sqT_of (S1.ex _ _ (hk p (h1 p hp))), fun h => ?_⟩
  · rw [same_len h nd h1 h2]
    exact k _ (S1.drop 0)
end
end Rw

namespace Rw
open PySem PySem.Spec PyProof.Rows L2
def top (i : Nat) : Stmt := PySem.Challenge.pw_rotorwalk_k08_whole_rounds_of_even_webs.main.body.getD i (.Pass ⟨0, 0, 0, 0⟩)
structure Bare (mg : Str → Option Value) : Prop where
  n_len : mg "len" = none
  n_range : mg "range" = none

/-! ### numbers -/
def mixed (c k : Int) : Int :=
  let n := (c % 1000000007 * 48271 + 7919 * k + 11) % 1000003
  n * n % 1000003 * n % 1000003
theorem mixed_nn (c k : Int) : 0 ≤ mixed c k := Int.emod_nonneg _ (by decide)
theorem mixed_lt (c k : Int) : mixed c k < 1000003 := Int.emod_lt_of_pos _ (by decide)
def spMixed : Sp := fun vs H Q _ => ∃ c k : Int, vs = [.int c, .int k] ∧ 0 ≤ k ∧ k ≤ 100000 ∧ Q (.int (mixed c k)) H
-- _law_mixed: 0 _law_cell, 1 _law_k, 2 _law_number
abbrev s_law_mixed : Stmt := top 27
theorem sc_law_mixed : FnScope ["_law_cell", "_law_k", "_law_number"] ["_law_cell", "_law_k"] (defScope s_law_mixed) := ⟨rfl, rfl, rfl, by decide +kernel, rfl, by decide +kernel, by decide +kernel⟩
section
variable {P : Program} {w : World} {K : PySem.W.Frag} {mg : Str → Option Value} {base : Heap}
theorem ok_mixed (T : Bare mg) (G : Glo K mg "_law_mixed" s_law_mixed) : Cal P w K mg base "_law_mixed" 1 ["_law_cell", "_law_k"] spMixed := by
  refine G.cal (k := 0) sc_law_mixed (fun _ _ _ _ _ _ us hl => match us, hl with | [_, _], _ => rfl) (fun vs H Q E h => ?_) (fun f cdv A outer s H vs Q E hr h => ?_)
  · obtain ⟨c, k, rfl, _⟩ := h; rfl
  obtain ⟨c, k, rfl, k0, k1, hQ⟩ := h
  refine ⟨_, (pss_cons (ps_set (i := 2) sc_law_mixed.nd rfl (Or.inl rfl) (pe_op op_mod (pe_op op_add (pe_op op_add (pe_op op_mul (pe_op op_mod (pv 0) pe_int) pe_int) (pe_op op_mul pe_int (pv 1))) pe_int) pe_int)) (pss_one (ps_ret (pe_op op_mod (pe_op op_mul (pe_op op_mod (pe_op op_mul (pv 2) (pv 2)) pe_int) (pv 2)) pe_int)))), ?_⟩
  have h1 := Int.emod_nonneg c (show (1000000007 : Int) ≠ 0 by decide)
  have h2 := Int.emod_lt_of_pos c (show (0 : Int) < 1000000007 by decide)
  refine ⟨_, rfl, _, _, rfl, rfl, by show (0 : Int) < 1000000007; decide, _, _, rfl, rfl, .inr (by decide), ?_⟩
  refine ⟨_, rfl, _, _, rfl, rfl, .inl (by decide), _, _, rfl, rfl, _, _, rfl, rfl, _, _, rfl, rfl, by show (0 : Int) < 1000003; decide, ?_⟩
  have h3 := Int.emod_nonneg (c % 1000000007 * 48271 + 7919 * k + 11) (show (1000003 : Int) ≠ 0 by decide)
  have h4 := Int.emod_lt_of_pos (c % 1000000007 * 48271 + 7919 * k + 11) (show (0 : Int) < 1000003 by decide)
  refine ⟨_, rfl, _, rfl, _, _, rfl, rfl, .inl ⟨by omega, by omega⟩, _, _, rfl, rfl, by show (0 : Int) < 1000003; decide, _, rfl, _, _, rfl, rfl, .inr ⟨by omega, by omega⟩, _, _, rfl, rfl, by show (0 : Int) < 1000003; decide, hQ⟩
end
end Rw

namespace Rw
open PySem PySem.Spec PyProof.Rows L2
local macro_rules | `(tactic| walk_at "go1") => `(tactic| first
  | (with_reducible refine w_seq ?_)
  | (with_reducible refine w_asg ?_)
  | (with_reducible refine w_name ?_)
  | (with_reducible refine w_drop ?_)
  | (with_reducible refine w_ret ?_)
  | (with_reducible refine w_next ?_)
  | (with_reducible refine w_op ?_)
  | (with_reducible refine w_un ?_)
  | (with_reducible refine w_c ?_)
  | (with_reducible refine w_var (by with_unfolding_all rfl) ?_)
  | (with_reducible refine w_rI0 ?_)
  | (with_reducible refine w_rU ?_)
  | ((with_reducible refine w_mod ?_ ?_); (show (0 : Int) < _); omega)
  | ((with_reducible refine w_div ?_ ?_); exact And.intro (by omega) (by omega))
  | ((with_reducible refine w_mul ?_ ?_); (first | exact Or.inl (And.intro (by omega) (by omega)) | exact Or.inr (And.intro (by omega) (by omega))))
  | (with_reducible refine w_ifS ?_)
  | (with_reducible refine w_if ?_)
  | (with_reducible refine w_test ?_)
  | (with_reducible refine w_B ?_)
  | (with_reducible refine w_bl ?_)
  | (with_reducible refine w_not ?_)
  | (with_reducible refine w_and ?_)
  | (with_reducible refine w_or ?_)
  | (with_reducible refine w_cons ?_)
  | (with_reducible refine w_nil ?_)
  | (with_reducible refine w_call ?_)
  | (with_reducible refine w_cb ?_)
  | (with_reducible refine w_bm0 ?_)
  | (with_reducible refine w_bm ?_)
  | (with_reducible refine w_tlst ?_)
  | (with_reducible refine w_ttup ?_)
  | (with_reducible refine w_sub ?_)
  | (with_reducible refine w_for ?_)
  | (with_reducible refine w_rng1 ?_)
  | ((with_reducible refine w_rngE ?_ ?_ ?_); omega; omega)
  | (with_reducible refine w_iL ?_)
  | (with_reducible refine w_iT ?_)
  | (with_reducible refine w_iE ?_)
  | (with_reducible refine w_iZ ?_)
  | (with_reducible refine w_lc ?_)
  | (with_reducible refine w_yes ?_)
  | (with_reducible refine w_gcons ?_)
  | (with_reducible refine w_gnil ?_)
  | (with_reducible refine w_max2 ?_)
  | (with_reducible refine w_sl ?_)
  | (with_reducible refine w_part ?_)
  | (with_reducible refine w_partI ?_)
  | (with_reducible refine w_nopart ?_)
  | (with_reducible refine w_isT ?_)
  | (with_reducible refine w_notT ?_)
  | (with_reducible refine w_isB ?_)
  | (with_reducible refine w_notB ?_)
  | (with_reducible refine w_isN ?_)
  | (with_reducible refine w_notN ?_)
  | (with_reducible refine w_fld ?_)
  | (with_reducible refine w_ftm ?_)
  | (with_reducible refine w_lrg ?_)
  | (with_reducible refine w_rg1 ?_)
  | (with_reducible refine w_rg1E ?_)
  | (with_reducible refine w_tru ?_)
  | (with_reducible refine w_truB ?_)
  | (with_reducible refine w_truI ?_)
  | (with_reducible refine w_notT' ?_)
  | (with_reducible refine w_andT ?_)
  | (with_reducible refine w_orT ?_)
  | (with_reducible refine w_andV ?_)
  | (with_reducible refine w_orV ?_)
  | (with_reducible refine w_andE ?_)
  | (with_reducible refine w_orE ?_)
  | (with_reducible refine w_notV ?_)
  | (with_reducible refine w_notE ?_)
  | (with_reducible refine w_chain ?_)
  | (with_reducible refine w_chainI ?_)
  | (with_reducible refine w_meth ?_)
  | (with_reducible refine w_make ?_)
  | (with_reducible refine w_sfld ?_))
local macro_rules | `(tactic| walk_at "go") => `(tactic| repeat walk_at "go1")

/-! ### webs -/
def cnt (m : Int) : Int := [2, 1, 3, 2, 0].getD m.toNat 0
def farAt (c k n i j : Int) : Int :=
  if mixed c (k + 20 + 3 * i + j) % 3 = 0 then (i + 1) % n else mixed c (k + 20 + 3 * i + j) / 3 % n
def rowAt (c k n : Int) (i : Nat) : List Int := (List.range (cnt (mixed c (k + 1 + i) % 5)).toNat).map fun j => farAt c k n i (j : Nat)
theorem cnt_at {m : Int} (h0 : 0 ≤ m) (h1 : m < 5) : atI [V.int 2, V.int 1, V.int 3, V.int 2, V.int 0] m = some (V.int (cnt m)) := by
  have : m = 0 ∨ m = 1 ∨ m = 2 ∨ m = 3 ∨ m = 4 := by omega
  rcases this with rfl | rfl | rfl | rfl | rfl <;> rfl
theorem cnt_le (m : Int) : 0 ≤ cnt m ∧ cnt m ≤ 3 := by
  unfold cnt
  generalize m.toNat = t
  match t with
  | 0 => decide
  | 1 => decide
  | 2 => decide
  | 3 => decide
  | 4 => decide
  | t + 5 => show (0 : Int) ≤ 0 ∧ (0 : Int) ≤ 3; decide
theorem three_at {x y : Int} {m : Int} (h0 : 0 ≤ m) (h1 : m < 3) : atI [V.int x, V.int y, V.int y] m = some (V.int (if m = 0 then x else y)) := by
  have : m = 0 ∨ m = 1 ∨ m = 2 := by omega
  rcases this with rfl | rfl | rfl <;> rfl
theorem snoc_map {α : Type} (f : Nat → α) (i : Nat) : (List.range (i + 1)).map f = (List.range i).map f ++ [f i] := by
  rw [List.range_succ, List.map_append]; rfl
def manyOf (c k : Int) : Nat := (1 + mixed c k % 8).toNat
def rows (c k : Int) : List (List Int) :=
  let b := (List.range (manyOf c k)).map (rowAt c k (1 + mixed c k % 8))
  if 0 < mixed c k / 8 % 5 then b.set (manyOf c k - 1) [] else b
def spRows (K : PySem.W.Frag) : Sp := fun vs H Q _ => ∃ (c k : Int) (B : Hp) (M : List (Addr × HO)), vs = [.int c, .int k] ∧ 0 ≤ k ∧ k ≤ 10000 ∧ Hs B M H ∧
  ∀ p B' H', Same B B' → Hs B' M H' → LL B' p (rows c k) → Q (.ref p) H'
-- _law_rows: 0 _law_cell, 1 _law_k, 2 _law_number, 3 _law_many, 4 _law_rows_here, 5 _law_place, 6 _law_more, 7 _law_row, 8 _law_j, 9 _law_far
abbrev s_law_rows : Stmt := top 29
theorem sc_law_rows : FnScope ["_law_cell", "_law_k", "_law_number", "_law_many", "_law_rows_here", "_law_place", "_law_more", "_law_row", "_law_j", "_law_far"] ["_law_cell", "_law_k"] (defScope s_law_rows) := ⟨rfl, rfl, rfl, by decide +kernel, rfl, by decide +kernel, by decide +kernel⟩
section
variable {P : Program} {w : World} {K : PySem.W.Frag} {mg : Str → Option Value} {base : Heap}
theorem ok_rows (T : Bare mg) (G : Glo K mg "_law_rows" s_law_rows) (C_law_mixed : Cal P w K mg base "_law_mixed" 1 ["_law_cell", "_law_k"] spMixed) : Cal P w K mg base "_law_rows" 2 ["_law_cell", "_law_k"] (spRows K) := by
  refine G.cal (k := 1) sc_law_rows (fun _ _ _ _ _ _ us hl => match us, hl with | [_, _], _ => rfl) (fun vs H Q E h => ?_) (fun f cdv A outer s H vs Q E hr h => ?_)
  · obtain ⟨c, k, B, M, rfl, _⟩ := h; rfl
  obtain ⟨c, k, B, M, rfl, k0, k1, S, hQ⟩ := h
  refine ⟨_, (pss_cons (ps_set (i := 2) sc_law_rows.nd rfl (Or.inl rfl) (pe_cal C_law_mixed hr rfl (pa_cons (pv 0) (pa_cons (pv 1) pa_nil)))) (pss_cons (ps_set (i := 3) sc_law_rows.nd rfl (Or.inl rfl) (pe_op op_add pe_int (pe_op op_mod (pv 2) pe_int))) (pss_cons (ps_set (i := 4) sc_law_rows.nd rfl (Or.inl rfl) (pe_lst pa_nil)) (pss_cons (ps_for PassesOwn.never rfl (pi_range1 rfl T.n_range (pa_cons (pv 3) pa_nil)) (pg_name (i := 5) sc_law_rows.nd rfl (Or.inl rfl)) (pss_cons (ps_set (i := 6) sc_law_rows.nd rfl (Or.inl rfl) (pe_cal C_law_mixed hr rfl (pa_cons (pv 0) (pa_cons (pe_op op_add (pe_op op_add (pv 1) pe_int) (pv 5)) pa_nil)))) (pss_cons (ps_set (i := 7) sc_law_rows.nd rfl (Or.inl rfl) (pe_lst pa_nil)) (pss_cons (ps_for PassesOwn.never rfl (pi_range1 rfl T.n_range (pa_cons (pe_ix (k_ixL K) (pe_lst (pa_cons pe_int (pa_cons pe_int (pa_cons pe_int (pa_cons pe_int (pa_cons pe_int pa_nil)))))) (pe_op op_mod (pv 6) pe_int) (fun _ _ => rfl)) pa_nil)) (pg_name (i := 8) sc_law_rows.nd rfl (Or.inl rfl)) (pss_cons (ps_set (i := 9) sc_law_rows.nd rfl (Or.inl rfl) (pe_cal C_law_mixed hr rfl (pa_cons (pv 0) (pa_cons (pe_op op_add (pe_op op_add (pe_op op_add (pv 1) pe_int) (pe_op op_mul pe_int (pv 5))) (pv 8)) pa_nil)))) (pss_one (ps_expr (pe_bmK K PySem.F.plainAttrs_list PySem.F.slot_list_append PySem.F.type_list_append mt_append (pv 7) (pa_cons (pe_ix (k_ixL K) (pe_lst (pa_cons (pe_op op_mod (pe_op op_add (pv 5) pe_int) (pv 3)) (pa_cons (pe_op op_mod (pe_op op_fdiv (pv 9) pe_int) (pv 3)) (pa_cons (pe_op op_mod (pe_op op_fdiv (pv 9) pe_int) (pv 3)) pa_nil)))) (pe_op op_mod (pv 9) pe_int) (fun _ _ => rfl)) pa_nil)))))) (pss_one (ps_expr (pe_bmK K PySem.F.plainAttrs_list PySem.F.slot_list_append PySem.F.type_list_append mt_append (pv 4) (pa_cons (pv 7) pa_nil)))))))) (pss_cons (ps_if (pt_cmpR op_gt (pe_op op_mod (pe_op op_fdiv (pv 2) pe_int) pe_int) pe_int (nomark _)) (pss_one (ps_asg (pe_lst pa_nil) (pg_sub (pv 4) (pe_un un_neg pe_int) set_list))) pss_nil) (pss_one (ps_ret (pv 4)))))))), ?_⟩
  walk_at "go"
  refine ⟨_, _, rfl, k0, by omega, ?_⟩
  walk_at "go"
  refine w_lst S (by decide) fun p H1 S1 => ?_
  have n0 := mixed_nn c k
  generalize en : mixed c k = n at *
  have hm0 : 1 ≤ 1 + n % 8 := by omega
  have hm1 : 1 + n % 8 ≤ 8 := by omega
  have em : manyOf c k = (1 + n % 8).toNat := by unfold manyOf; rw [en]
  have er : rows c k = if 0 < n / 8 % 5 then ((List.range (1 + n % 8).toNat).map (rowAt c k (1 + n % 8))).set ((1 + n % 8).toNat - 1) [] else (List.range (1 + n % 8).toNat).map (rowAt c k (1 + n % 8)) := by
    unfold rows; rw [em, en]
  generalize 1 + n % 8 = many at *
  walk_at "go"
  refine for_rng (fun i σ H => ∃ (B' : Hp) (as : List Addr) (v5 v6 v7 v8 v9 : Option V), Same B B' ∧ σ = [some (.int c), some (.int k), some (.int n), some (.int many), some (.ref p), v5, v6, v7, v8, v9] ∧ Hs B' ((p, .lst (as.map V.ref)) :: M) H ∧ LR B' as ((List.range i).map (rowAt c k many)))
    ⟨B, [], none, none, none, none, none, Same.refl B, rfl, S1, .nil⟩ ?_ ?_
  · rintro i σ H2 hi ⟨B', as, v5, v6, v7, v8, v9, e1, rfl, S2, hR⟩
    walk_at "go"
    refine ⟨_, _, rfl, by omega, by omega, ?_⟩
    walk_at "go"
    refine w_lst S2 (by decide) fun q H3 S3 => ?_
    walk_at "go"
    refine w_lst S3 (by decide) fun q2 H4 S4 => ?_
    have c0 := mixed_nn c (k + 1 + (i : Int))
    walk_at "go"
    have er2 : rowAt c k many i = (List.range (cnt (mixed c (k + 1 + (i : Int)) % 5)).toNat).map fun j => farAt c k many i (j : Nat) := rfl
    generalize mixed c (k + 1 + (i : Int)) = mm at *
    have hm5 : 0 ≤ mm % 5 ∧ mm % 5 < 5 := by omega
    refine w_ixL (sqL_of (S4.get 0)) (cnt_at hm5.1 hm5.2) ?_
    have hc := cnt_le (mm % 5)
    generalize cnt (mm % 5) = cn at *
    walk_at "go"
    refine for_rng (fun j σ H => ∃ (v8 v9 : Option V), σ = [some (.int c), some (.int k), some (.int n), some (.int many), some (.ref p), some (.int (i : Int)), some (.int mm), some (.ref q), v8, v9] ∧ Hs B' ((q, .lst (((List.range j).map fun j => farAt c k many i (j : Nat)).map V.int)) :: (p, .lst (as.map V.ref)) :: M) H)
      ⟨v8, v9, rfl, S4.drop 0⟩ ?_ ?_
    · rintro j σ H5 hj ⟨v8, v9, rfl, S5⟩
      walk_at "go"
      refine ⟨_, _, rfl, by omega, by omega, ?_⟩
      have f0 := mixed_nn c (k + 20 + 3 * (i : Int) + (j : Int))
      have ef : farAt c k many i (j : Nat) = if mixed c (k + 20 + 3 * (i : Int) + (j : Int)) % 3 = 0 then ((i : Int) + 1) % many else mixed c (k + 20 + 3 * (i : Int) + (j : Int)) / 3 % many := rfl
      generalize mixed c (k + 20 + 3 * (i : Int) + (j : Int)) = ff at *
      walk_at "go"
      refine ⟨tyL (sqL_of (S5.get 0)), ?_⟩
      walk_at "go"
      refine w_lst S5 (len_ok (by simp)) fun z H6 S6 => ?_
      walk_at "go"
      refine w_ixL (sqL_of (S6.get 0)) (three_at (by omega) (by omega)) ?_
      walk_at "go"
      refine w_append (S6.drop 0) 0 rfl (len_lt (by simp; omega)) fun H7 S7 => ?_
      refine ⟨some (.int (j : Int)), some (.int ff), rfl, ?_⟩
      rw [snoc_map, ef, List.map_append]
      exact S7
    · rintro σ H5 ⟨v8, v9, rfl, S5⟩
      walk_at "go"
      refine ⟨tyL (sqL_of (S5.get 1)), ?_⟩
      walk_at "go"
      refine w_append S5 1 rfl (len_lt (by have := hR.length; simp at this; simp; omega)) fun H6 S6 => ?_
      obtain ⟨B2, eB, hq, S7⟩ := S6.shut 0
      refine ⟨B2, as ++ [q], some (.int (i : Int)), some (.int mm), some (.ref q), v8, v9, e1.trans eB, rfl, ?_, ?_⟩
      · rw [List.map_append]; exact S7
      · rw [snoc_map, er2]
        exact (hR.mono eB).snoc hq
  · rintro σ H2 ⟨B', as, v5, v6, v7, v8, v9, e1, rfl, S2, hR⟩
    have hlen : as.length = many.toNat := by have := hR.length; simpa using this
    walk_at "go"
    refine ite2 (fun hc => ?_) (fun hc => ?_)
    · have hc := of_decide_eq_true hc
      walk_at "go"
      refine w_lst S2 (by decide) fun q H3 S3 => ?_
      walk_at "go"
      refine w_setL S3 1 rfl (n := many.toNat - 1) ?_ fun H4 S4 => ?_
      · unfold ixN
        rw [if_neg (by decide), if_pos (by rw [List.length_map, hlen]; omega), List.length_map, hlen]
        congr 1
        omega
      walk_at "go"
      obtain ⟨B2, eB, hq, S5⟩ := S4.shut 0
      obtain ⟨B3, eB3, hp, S6⟩ := S5.shut 0
      refine hQ p _ _ ((e1.trans eB).trans eB3) S6 ⟨as.set (many.toNat - 1) q, ?_, ?_⟩
      · rw [hp, List.map_set]
      · rw [er, if_pos hc]
        exact ((hR.mono eB).set hq).mono eB3
    · have hc : ¬ 0 < n / 8 % 5 := fun q => hc (decide_eq_true q)
      walk_at "go"
      obtain ⟨B3, eB3, hp, S6⟩ := S2.shut 0
      refine hQ p _ _ (e1.trans eB3) S6 ⟨as, hp, ?_⟩
      rw [er, if_neg hc]
      exact hR.mono eB3
end
end Rw

namespace Rw
open PySem PySem.Spec PyProof.Rows L2
local macro_rules | `(tactic| walk_at "go1") => `(tactic| first
  | (with_reducible refine w_seq ?_)
  | (with_reducible refine w_asg ?_)
  | (with_reducible refine w_name ?_)
  | (with_reducible refine w_drop ?_)
  | (with_reducible refine w_ret ?_)
  | (with_reducible refine w_next ?_)
  | (with_reducible refine w_op ?_)
  | (with_reducible refine w_un ?_)
  | (with_reducible refine w_c ?_)
  | (with_reducible refine w_var (by with_unfolding_all rfl) ?_)
  | (with_reducible refine w_rI0 ?_)
  | (with_reducible refine w_rU ?_)
  | ((with_reducible refine w_mod ?_ ?_); (show (0 : Int) < _); omega)
  | ((with_reducible refine w_div ?_ ?_); exact And.intro (by omega) (by omega))
  | ((with_reducible refine w_mul ?_ ?_); (first | exact Or.inl (And.intro (by omega) (by omega)) | exact Or.inr (And.intro (by omega) (by omega))))
  | (with_reducible refine w_ifS ?_)
  | (with_reducible refine w_if ?_)
  | (with_reducible refine w_test ?_)
  | (with_reducible refine w_B ?_)
  | (with_reducible refine w_bl ?_)
  | (with_reducible refine w_not ?_)
  | (with_reducible refine w_and ?_)
  | (with_reducible refine w_or ?_)
  | (with_reducible refine w_cons ?_)
  | (with_reducible refine w_nil ?_)
  | (with_reducible refine w_call ?_)
  | (with_reducible refine w_cb ?_)
  | (with_reducible refine w_bm0 ?_)
  | (with_reducible refine w_bm ?_)
  | (with_reducible refine w_tlst ?_)
  | (with_reducible refine w_ttup ?_)
  | (with_reducible refine w_sub ?_)
  | (with_reducible refine w_for ?_)
  | (with_reducible refine w_rng1 ?_)
  | ((with_reducible refine w_rngE ?_ ?_ ?_); omega; omega)
  | (with_reducible refine w_iL ?_)
  | (with_reducible refine w_iT ?_)
  | (with_reducible refine w_iE ?_)
  | (with_reducible refine w_iZ ?_)
  | (with_reducible refine w_lc ?_)
  | (with_reducible refine w_yes ?_)
  | (with_reducible refine w_gcons ?_)
  | (with_reducible refine w_gnil ?_)
  | (with_reducible refine w_max2 ?_)
  | (with_reducible refine w_sl ?_)
  | (with_reducible refine w_part ?_)
  | (with_reducible refine w_partI ?_)
  | (with_reducible refine w_nopart ?_)
  | (with_reducible refine w_isT ?_)
  | (with_reducible refine w_notT ?_)
  | (with_reducible refine w_isB ?_)
  | (with_reducible refine w_notB ?_)
  | (with_reducible refine w_isN ?_)
  | (with_reducible refine w_notN ?_)
  | (with_reducible refine w_fld ?_)
  | (with_reducible refine w_ftm ?_)
  | (with_reducible refine w_lrg ?_)
  | (with_reducible refine w_rg1 ?_)
  | (with_reducible refine w_rg1E ?_)
  | (with_reducible refine w_tru ?_)
  | (with_reducible refine w_truB ?_)
  | (with_reducible refine w_truI ?_)
  | (with_reducible refine w_notT' ?_)
  | (with_reducible refine w_andT ?_)
  | (with_reducible refine w_orT ?_)
  | (with_reducible refine w_andV ?_)
  | (with_reducible refine w_orV ?_)
  | (with_reducible refine w_andE ?_)
  | (with_reducible refine w_orE ?_)
  | (with_reducible refine w_notV ?_)
  | (with_reducible refine w_notE ?_)
  | (with_reducible refine w_chain ?_)
  | (with_reducible refine w_chainI ?_)
  | (with_reducible refine w_meth ?_)
  | (with_reducible refine w_make ?_)
  | (with_reducible refine w_sfld ?_))
local macro_rules | `(tactic| walk_at "go") => `(tactic| repeat walk_at "go1")

structure Names (mg : Str → Option Value) : Prop where
  n_len : mg "len" = none
  n_range : mg "range" = none
  n_type : mg "type" = none
  n_list : mg "list" = none
  n_tuple : mg "tuple" = none
  n_int : mg "int" = none
  n_all : mg "all" = none
  n_any : mg "any" = none
  n_sum : mg "sum" = none
  n_max : mg "max" = none
  n_zip : mg "zip" = none
  n_enumerate : mg "enumerate" = none
  n_divmod : mg "divmod" = none
  c_MOST_PLACES : ∃ t, mg "MOST_PLACES" = some (.int 8 t)
  c_MOST_WAYS : ∃ t, mg "MOST_WAYS" = some (.int 3 t)
/-! ### what a web is -/
structure Valid (rows : List (List Int)) : Prop where
  pos : 1 ≤ rows.length
  le : rows.length ≤ 8
  row : ∀ r ∈ rows, r.length ≤ 3 ∧ ∀ x ∈ r, 0 ≤ x ∧ x < (rows.length : Int)
theorem all_true : ∀ n, (List.replicate n true).all id = true
  | 0 => rfl
  | n + 1 => by rw [List.replicate_succ, List.all_cons, all_true n]; rfl
/-! ### things of any kind -/
inductive TyH (H : Hp) : V → String → Prop where
  | non : TyH H .non "NoneType"
  | bl (b : Bool) : TyH H (.bl b) "bool"
  | int (i : Int) : TyH H (.int i) "int"
  | str (x : Str) : TyH H (.str x) "str"
  | lst {a : Addr} {xs : List V} (h : H a = some (.lst xs)) : TyH H (.ref a) "list"
  | tup {a : Addr} {xs : List V} (h : H a = some (.tup xs)) : TyH H (.ref a) "tuple"
  | dK {a : Addr} {kvs : List (Key × V)} (h : H a = some (.dK kvs)) : TyH H (.ref a) "dict"
theorem TyH.toB {K : PySem.W.Frag} {H : Hp} {v : V} {T : String} (t : TyH H v T) : TyB K H v T := by
  cases t with
  | non => exact .non
  | bl b => exact .bl b
  | int i => exact .int i
  | str x => exact .str x
  | lst h => exact .lst (sqL_of h)
  | tup h => exact .tup (sqT_of h)
  | dK h => exact .dK h
theorem TyH.mono {H H' : Hp} {v : V} {T : String} (e : Same H H') (t : TyH H v T) : TyH H' v T := by
  cases t with
  | non => exact .non
  | bl b => exact .bl b
  | int i => exact .int i
  | str x => exact .str x
  | lst h => exact .lst (e _ _ h)
  | tup h => exact .tup (e _ _ h)
  | dK h => exact .dK (e _ _ h)
/-- whether a thing is a place of m ones -/
inductive PlD (H : Hp) (m : Int) : V → Bool → Prop where
  | int (i : Int) : PlD H m (.int i) (decide (0 ≤ i ∧ i < m))
  | oth {v : V} {T : String} (t : TyH H v T) (h : T ≠ "int") : PlD H m v false
theorem PlD.mono {H H' : Hp} {m : Int} {v : V} {b : Bool} (e : Same H H') (h : PlD H m v b) : PlD H' m v b := by
  cases h with
  | int i => exact .int i
  | oth t h => exact .oth (t.mono e) h
/-- whether things are as told -/
inductive AllD (R : V → Bool → Prop) : List V → List Bool → Prop where
  | nil : AllD R [] []
  | cons {v : V} {b : Bool} {vs : List V} {bs : List Bool} (h : R v b) (t : AllD R vs bs) : AllD R (v :: vs) (b :: bs)
theorem AllD.imp {R S : V → Bool → Prop} (f : ∀ v b, R v b → S v b) {vs : List V} {bs : List Bool} (h : AllD R vs bs) : AllD S vs bs := by
  induction h with
  | nil => exact .nil
  | cons h _ ih => exact .cons (f _ _ h) ih
theorem AllD.length {R : V → Bool → Prop} {vs : List V} {bs : List Bool} (h : AllD R vs bs) : vs.length = bs.length := by
  induction h with
  | nil => rfl
  | cons h _ ih => simp [ih]
theorem AllD.get {R : V → Bool → Prop} {vs : List V} {bs : List Bool} (h : AllD R vs bs) : ∀ {i : Nat} {v : V}, vs[i]? = some v → ∃ b, bs[i]? = some b ∧ R v b := by
  induction h with
  | nil => intro i v e; simp at e
  | cons h _ ih =>
    intro i v e
    cases i with
    | zero => simp at e; subst e; exact ⟨_, rfl, h⟩
    | succ i => exact ih (by simpa using e)
inductive RwD (H : Hp) (m : Int) : V → Bool → Prop where
  | lst {a : Addr} {xs : List V} {bs : List Bool} (h : H a = some (.lst xs)) (t : AllD (PlD H m) xs bs) : RwD H m (.ref a) (decide (xs.length ≤ 3) && bs.all id)
  | oth {v : V} {T : String} (t : TyH H v T) (h : T ≠ "list") : RwD H m v false
theorem RwD.mono {H H' : Hp} {m : Int} {v : V} {b : Bool} (e : Same H H') (h : RwD H m v b) : RwD H' m v b := by
  cases h with
  | lst h t => exact .lst (e _ _ h) (t.imp fun _ _ => PlD.mono e)
  | oth t h => exact .oth (t.mono e) h
inductive WbD (H : Hp) : V → Bool → Prop where
  | lst {a : Addr} {xs : List V} {bs : List Bool} (h : H a = some (.lst xs)) (t : AllD (RwD H (xs.length : Nat)) xs bs) : WbD H (.ref a) (decide (1 ≤ xs.length ∧ xs.length ≤ 8) && bs.all id)
  | oth {v : V} {T : String} (t : TyH H v T) (h : T ≠ "list") : WbD H v false
theorem WbD.mono {H H' : Hp} {v : V} {b : Bool} (e : Same H H') (h : WbD H v b) : WbD H' v b := by
  cases h with
  | lst h t => exact .lst (e _ _ h) (t.imp fun _ _ => RwD.mono e)
  | oth t h => exact .oth (t.mono e) h
/-- whether a thing is a number from lo to hi -/
inductive NmD (H : Hp) (lo hi : Int) : V → Bool → Prop where
  | int (i : Int) : NmD H lo hi (.int i) (decide (lo ≤ i ∧ i ≤ hi))
  | oth {v : V} {T : String} (t : TyH H v T) (h : T ≠ "int") : NmD H lo hi v false
theorem NmD.mono {H H' : Hp} {lo hi : Int} {v : V} {b : Bool} (e : Same H H') (h : NmD H lo hi v b) : NmD H' lo hi v b := by
  cases h with
  | int i => exact .int i
  | oth t h => exact .oth (t.mono e) h
theorem PlD.num {H : Hp} {m : Int} {v : V} {b : Bool} (h : PlD H m v b) : NmD H 0 (m - 1) v b := by
  cases h with
  | int i =>
    have e : decide (0 ≤ i ∧ i < m) = decide (0 ≤ i ∧ i ≤ m - 1) := decide_eq_decide.mpr ⟨fun q => ⟨q.1, by omega⟩, fun q => ⟨q.1, by omega⟩⟩
    rw [e]
    exact .int i
  | oth t h => exact .oth t h
def spNum : Sp := fun vs H Q _ => ∃ (v : V) (lo hi : Int) (b : Bool), vs = [v, .int lo, .int hi] ∧ NmD H lo hi v b ∧ Q (.bl b) H
def spIsRowD : Sp := fun vs H Q _ => ∃ (B : Hp) (M : List (Addr × HO)) (v : V) (m : Int) (b : Bool), vs = [v, .int m] ∧ Hs B M H ∧ RwD B m v b ∧ ∀ H', Hs B M H' → Q (.bl b) H'
def spIsWebD : Sp := fun vs H Q _ => ∃ (B : Hp) (M : List (Addr × HO)) (v : V) (b : Bool), vs = [v] ∧ Hs B M H ∧ WbD B v b ∧ ∀ H', Hs B M H' → Q (.bl b) H'
/-! what is good -/
theorem allD_ints {H : Hp} {m : Int} : ∀ {r : List Int}, (∀ x ∈ r, 0 ≤ x ∧ x < m) → AllD (PlD H m) (r.map V.int) (List.replicate r.length true)
  | [], _ => .nil
  | x :: r, h => by
    have e : PlD H m (.int x) true := by
      rw [← decide_eq_true (h x List.mem_cons_self)]
      exact .int x
    exact .cons e (allD_ints fun y hy => h y (List.mem_cons_of_mem _ hy))
theorem rwD_good {H : Hp} {m : Int} {a : Addr} {r : List Int} (h : LI H a r) (hl : r.length ≤ 3) (hx : ∀ x ∈ r, 0 ≤ x ∧ x < m) : RwD H m (.ref a) true := by
  have e := RwD.lst h (allD_ints hx)
  rw [all_true, decide_eq_true (by simpa using hl)] at e
  exact e
theorem allD_rows {H : Hp} {m : Int} : ∀ {as : List Addr} {rows : List (List Int)}, LR H as rows → (∀ r ∈ rows, r.length ≤ 3 ∧ ∀ x ∈ r, 0 ≤ x ∧ x < m) → AllD (RwD H m) (as.map V.ref) (List.replicate rows.length true)
  | _, _, .nil, _ => .nil
  | _, _, .cons h t, hv => .cons (rwD_good h (hv _ List.mem_cons_self).1 (hv _ List.mem_cons_self).2) (allD_rows t fun r hr => hv r (List.mem_cons_of_mem _ hr))
theorem wbD_good {H : Hp} {a : Addr} {rows : List (List Int)} (h : LL H a rows) (hv : Valid rows) : WbD H (.ref a) true := by
  obtain ⟨as, h1, h2⟩ := h
  have hl := h2.length
  have hp := hv.pos
  have hle := hv.le
  have e := WbD.lst h1 (allD_rows (m := ((as.map V.ref).length : Nat)) h2 (by simpa [hl] using hv.row))
  rw [all_true, decide_eq_true (by simp; omega)] at e
  exact e
theorem bs_snoc {bs : List Bool} {b : Bool} {i : Nat} (h : bs[i]? = some b) : (bs.take (i + 1)).map V.bl = (bs.take i).map V.bl ++ [.bl b] := by
  rw [List.take_add_one, h, List.map_append]; rfl
-- is_number: 0 thing, 1 least, 2 most
abbrev s_is_number : Stmt := top 10
theorem sc_is_number : FnScope ["thing", "least", "most"] ["thing", "least", "most"] (defScope s_is_number) := ⟨rfl, rfl, rfl, by decide +kernel, rfl, by decide +kernel, by decide +kernel⟩
-- _is_row: 0 thing, 1 many, 2 place
abbrev s_is_row : Stmt := top 22
theorem sc_is_row : FnScope ["thing", "many", "place"] ["thing", "many"] (defScope s_is_row) := ⟨rfl, rfl, rfl, by decide +kernel, rfl, by decide +kernel, by decide +kernel⟩
-- is_web: 0 thing, 1 row
abbrev s_is_web : Stmt := top 21
theorem sc_is_web : FnScope ["thing", "row"] ["thing"] (defScope s_is_web) := ⟨rfl, rfl, rfl, by decide +kernel, rfl, by decide +kernel, by decide +kernel⟩
section
variable {P : Program} {w : World} {K : PySem.W.Frag} {mg : Str → Option Value} {base : Heap}
theorem ok_num (T : Names mg) (G : Glo K mg "is_number" s_is_number) : Cal P w K mg base "is_number" 1 ["thing", "least", "most"] spNum := by
  refine G.cal (k := 0) sc_is_number (fun _ _ _ _ _ _ us hl => match us, hl with | [_, _, _], _ => rfl) (fun vs H Q E h => ?_) (fun f cdv A outer s H vs Q E hr h => ?_)
  · obtain ⟨v, lo, hi, b, rfl, _⟩ := h; rfl
  obtain ⟨v, lo, hi, b, rfl, hd, hQ⟩ := h
  refine ⟨_, (pss_one (ps_ret (pe_and (pe_cmpR op_isTX (pe_callTy (k_type K) rfl T.n_type (by decide +kernel) (pa_cons (pv 0) pa_nil)) (pe_bltn (v := .ty "int") rfl T.n_int (by decide +kernel) rfl) (nomark _)) (pe_one (pe_chain op_le op_le (pv 1) (pv 0) (pv 2)))))), ?_⟩
  walk_at "go"
  cases hd with
  | int i =>
    refine w_typ (.int i) ?_
    walk_at "go"
    refine iteP rfl ?_
    walk_at "go"
    refine ite3 (fun h => ?_) (fun h => ?_)
    · walk_at "go"
      rw [show decide (i ≤ hi) = decide (lo ≤ i ∧ i ≤ hi) from decide_eq_decide.mpr ⟨fun q => ⟨h, q⟩, fun q => q.2⟩]
      exact hQ
    · rw [show decide (lo ≤ i ∧ i ≤ hi) = false from decide_eq_false fun q => h q.1] at hQ
      exact hQ
  | oth t h =>
    refine w_typ t.toB ?_
    walk_at "go"
    refine iteN h ?_
    exact hQ
theorem ok_is_rowD (T : Names mg) (G : Glo K mg "_is_row" s_is_row) (C_is_number : Cal P w K mg base "is_number" 1 ["thing", "least", "most"] spNum) : Cal P w K mg base "_is_row" 2 ["thing", "many"] spIsRowD := by
  obtain ⟨tw, c_MOST_WAYS⟩ := T.c_MOST_WAYS
  refine G.cal (k := 1) sc_is_row (fun _ _ _ _ _ _ us hl => match us, hl with | [_, _], _ => rfl) (fun vs H Q E h => ?_) (fun f cdv A outer s H vs Q E hr h => ?_)
  · obtain ⟨B, M, a, r, m, rfl, _⟩ := h; rfl
  obtain ⟨B, M, v, m, b, rfl, S, hd, hQ⟩ := h
  refine ⟨_, (pss_cons (ps_if (PW.pt (pw_or (pt_cmpR op_notTyB (pe_callTy (k_type K) rfl T.n_type (by decide +kernel) (pa_cons (pv 0) pa_nil)) (pe_bltn (v := .ty "list") rfl T.n_list (by decide +kernel) rfl) (nomark _)) (pw_or1 (pt_cmpR op_gt (pe_callB (k_len K) rfl T.n_len boot_len (pa_cons (pv 0) pa_nil)) (pe_glob (v := .int 3) rfl c_MOST_WAYS ⟨_, rfl⟩) (nomark _))))) (pss_one (ps_ret pe_bl)) pss_nil) (pss_one (ps_ret (pe_callB (k_all K rfl) rfl T.n_all (by decide +kernel) (pa_cons (pe_lc (own := [("place", 2)]) rfl sc_is_row.nd (pi_listK K (pv 0)) (blkOk_by (own := [("place", 2)]) (N := ["thing", "many", "place"]) (sc := defScope s_is_row) (by decide +kernel)) (fun _ _ _ _ _ => (pg_name (i := 2) sc_is_row.nd rfl (Or.inl rfl))) (fun _ _ _ _ _ => pts_nil) (fun _ _ _ _ _ => (pe_cal C_is_number hr rfl (pa_cons (pv 2) (pa_cons pe_int (pa_cons (pe_op op_sub (pv 1) pe_int) pa_nil)))))) pa_nil))))), ?_⟩
  walk_at "go"
  cases hd with
  | @oth _ T t h =>
    refine w_typ (t.mono S.ex).toB ?_
    walk_at "go"
    rw [decide_eq_false h]
    refine iteT ?_
    exact hQ _ S
  | @lst a xs bs hr0 ht =>
    have hlb := ht.length
    refine w_typ (.lst (sqL_of (S.ex _ _ hr0))) ?_
    walk_at "go"
    refine iteF ?_
    walk_at "go"
    refine w_len (sqL_of (S.ex _ _ hr0)) ?_
    walk_at "go"
    refine ite3 (fun h3 => ?_) (fun h3 => ?_)
    · walk_at "go"
      rw [decide_eq_false (by omega)] at hQ
      exact hQ _ S
    rw [decide_eq_true (by omega), Bool.true_and] at hQ
    walk_at "go"
    refine w_iLE (sqL_of (S.ex _ _ hr0)) ?_
    refine lc_L S hr0 (fun i B' acc => B' = B ∧ acc = (bs.take i).map V.bl) ⟨rfl, rfl⟩ ?_ ?_
    · rintro i x D B' acc H' hi hli e S' ⟨rfl, rfl⟩
      obtain ⟨b, hb, hp⟩ := ht.get hi
      have hil : i < xs.length := (List.getElem?_eq_some_iff.mp hi).1
      walk_at "go"
      refine ⟨rfl, ?_⟩
      walk_at "go"
      refine iteT ?_
      walk_at "go"
      refine ⟨x, 0, m - 1, b, rfl, (hp.mono S'.ex).num, ?_⟩
      exact lcp S' (Same.refl _) hli (by omega) ⟨rfl, (bs_snoc hb).symm⟩
    · rintro D B' acc H' e S' hli ⟨rfl, rfl⟩
      walk_at "go"
      refine w_all (sqL_of (S'.get 0)) ?_
      rw [List.take_of_length_le (by omega)]
      exact hQ _ (S'.drop 0)
theorem ok_is_webD (T : Names mg) (G : Glo K mg "is_web" s_is_web) (C_is_row : Cal P w K mg base "_is_row" 2 ["thing", "many"] spIsRowD) : Cal P w K mg base "is_web" 3 ["thing"] spIsWebD := by
  obtain ⟨tw, c_MOST_PLACES⟩ := T.c_MOST_PLACES
  refine G.cal (k := 2) sc_is_web (fun _ _ _ _ _ _ us hl => match us, hl with | [_], _ => rfl) (fun vs H Q E h => ?_) (fun f cdv A outer s H vs Q E hr h => ?_)
  · obtain ⟨B, M, a, r, rfl, _⟩ := h; rfl
  obtain ⟨B, M, v, b, rfl, S, hd, hQ⟩ := h
  refine ⟨_, (pss_cons (ps_if (PW.pt (pw_or (pt_cmpR op_notTyB (pe_callTy (k_type K) rfl T.n_type (by decide +kernel) (pa_cons (pv 0) pa_nil)) (pe_bltn (v := .ty "list") rfl T.n_list (by decide +kernel) rfl) (nomark _)) (pw_or1 (pt_not (pt_chain op_le op_le pe_int (pe_callB (k_len K) rfl T.n_len boot_len (pa_cons (pv 0) pa_nil)) (pe_glob (v := .int 8) rfl c_MOST_PLACES ⟨_, rfl⟩)))))) (pss_one (ps_ret pe_bl)) pss_nil) (pss_one (ps_ret (pe_callB (k_all K rfl) rfl T.n_all (by decide +kernel) (pa_cons (pe_lc (own := [("row", 1)]) rfl sc_is_web.nd (pi_listK K (pv 0)) (blkOk_by (own := [("row", 1)]) (N := ["thing", "row"]) (sc := defScope s_is_web) (by decide +kernel)) (fun _ _ _ _ _ => (pg_name (i := 1) sc_is_web.nd rfl (Or.inl rfl))) (fun _ _ _ _ _ => pts_nil) (fun _ _ _ _ _ => (pe_cal C_is_row hr rfl (pa_cons (pv 1) (pa_cons (pe_callB (k_len K) rfl T.n_len boot_len (pa_cons (pv 0) pa_nil)) pa_nil))))) pa_nil))))), ?_⟩
  walk_at "go"
  cases hd with
  | @oth _ T t h =>
    refine w_typ (t.mono S.ex).toB ?_
    walk_at "go"
    rw [decide_eq_false h]
    refine iteT ?_
    exact hQ _ S
  | @lst a xs bs hr0 ht =>
    have hlb := ht.length
    refine w_typ (.lst (sqL_of (S.ex _ _ hr0))) ?_
    walk_at "go"
    refine iteF ?_
    walk_at "go"
    refine w_len (sqL_of (S.ex _ _ hr0)) ?_
    walk_at "go"
    refine ite3 (fun h3 => ?_) (fun h3 => ?_)
    · walk_at "go"
      by_cases h8 : (xs.length : Int) ≤ 8
      · rw [decide_eq_true h8]
        rw [decide_eq_true (by omega), Bool.true_and] at hQ
        refine iteF ?_
        walk_at "go"
        refine w_iLE (sqL_of (S.ex _ _ hr0)) ?_
        refine lc_L S hr0 (fun i B' acc => B' = B ∧ acc = (bs.take i).map V.bl) ⟨rfl, rfl⟩ ?_ ?_
        · rintro i x D B' acc H' hi hli e S' ⟨rfl, rfl⟩
          obtain ⟨b, hb, hp⟩ := ht.get hi
          have hil : i < xs.length := (List.getElem?_eq_some_iff.mp hi).1
          walk_at "go"
          refine ⟨rfl, ?_⟩
          walk_at "go"
          refine iteT ?_
          walk_at "go"
          refine w_len (sqL_of (S'.ex _ _ hr0)) ?_
          walk_at "go"
          refine ⟨_, _, x, _, b, rfl, S', hp, fun H2 S2 => ?_⟩
          exact lcp S2 (Same.refl _) hli (by omega) ⟨rfl, (bs_snoc hb).symm⟩
        · rintro D B' acc H' e S' hli ⟨rfl, rfl⟩
          walk_at "go"
          refine w_all (sqL_of (S'.get 0)) ?_
          rw [List.take_of_length_le (by omega)]
          exact hQ _ (S'.drop 0)
      · rw [decide_eq_false h8]
        rw [decide_eq_false (by omega)] at hQ
        refine iteT ?_
        exact hQ _ S
    · rw [decide_eq_false (by omega)] at hQ
      refine ⟨false, rfl, ?_⟩
      refine iteT ?_
      exact hQ _ S
end
end Rw

namespace Rw
open PySem PySem.Spec PyProof.Rows L2
local macro_rules | `(tactic| walk_at "go1") => `(tactic| first
  | (with_reducible refine w_seq ?_)
  | (with_reducible refine w_asg ?_)
  | (with_reducible refine w_name ?_)
  | (with_reducible refine w_drop ?_)
  | (with_reducible refine w_ret ?_)
  | (with_reducible refine w_next ?_)
  | (with_reducible refine w_op ?_)
  | (with_reducible refine w_un ?_)
  | (with_reducible refine w_c ?_)
  | (with_reducible refine w_var (by with_unfolding_all rfl) ?_)
  | (with_reducible refine w_rI0 ?_)
  | (with_reducible refine w_rU ?_)
  | ((with_reducible refine w_mod ?_ ?_); (show (0 : Int) < _); omega)
  | ((with_reducible refine w_div ?_ ?_); exact And.intro (by omega) (by omega))
  | ((with_reducible refine w_mul ?_ ?_); (first | exact Or.inl (And.intro (by omega) (by omega)) | exact Or.inr (And.intro (by omega) (by omega))))
  | (with_reducible refine w_ifS ?_)
  | (with_reducible refine w_if ?_)
  | (with_reducible refine w_test ?_)
  | (with_reducible refine w_B ?_)
  | (with_reducible refine w_bl ?_)
  | (with_reducible refine w_not ?_)
  | (with_reducible refine w_and ?_)
  | (with_reducible refine w_or ?_)
  | (with_reducible refine w_cons ?_)
  | (with_reducible refine w_nil ?_)
  | (with_reducible refine w_call ?_)
  | (with_reducible refine w_cb ?_)
  | (with_reducible refine w_bm0 ?_)
  | (with_reducible refine w_bm ?_)
  | (with_reducible refine w_tlst ?_)
  | (with_reducible refine w_ttup ?_)
  | (with_reducible refine w_sub ?_)
  | (with_reducible refine w_for ?_)
  | (with_reducible refine w_rng1 ?_)
  | ((with_reducible refine w_rngE ?_ ?_ ?_); omega; omega)
  | (with_reducible refine w_iL ?_)
  | (with_reducible refine w_iT ?_)
  | (with_reducible refine w_iE ?_)
  | (with_reducible refine w_iZ ?_)
  | (with_reducible refine w_lc ?_)
  | (with_reducible refine w_yes ?_)
  | (with_reducible refine w_gcons ?_)
  | (with_reducible refine w_gnil ?_)
  | (with_reducible refine w_max2 ?_)
  | (with_reducible refine w_sl ?_)
  | (with_reducible refine w_part ?_)
  | (with_reducible refine w_partI ?_)
  | (with_reducible refine w_nopart ?_)
  | (with_reducible refine w_isT ?_)
  | (with_reducible refine w_notT ?_)
  | (with_reducible refine w_isB ?_)
  | (with_reducible refine w_notB ?_)
  | (with_reducible refine w_isN ?_)
  | (with_reducible refine w_notN ?_)
  | (with_reducible refine w_fld ?_)
  | (with_reducible refine w_ftm ?_)
  | (with_reducible refine w_lrg ?_)
  | (with_reducible refine w_rg1 ?_)
  | (with_reducible refine w_rg1E ?_)
  | (with_reducible refine w_tru ?_)
  | (with_reducible refine w_truB ?_)
  | (with_reducible refine w_truI ?_)
  | (with_reducible refine w_notT' ?_)
  | (with_reducible refine w_andT ?_)
  | (with_reducible refine w_orT ?_)
  | (with_reducible refine w_andV ?_)
  | (with_reducible refine w_orV ?_)
  | (with_reducible refine w_andE ?_)
  | (with_reducible refine w_orE ?_)
  | (with_reducible refine w_notV ?_)
  | (with_reducible refine w_notE ?_)
  | (with_reducible refine w_chain ?_)
  | (with_reducible refine w_chainI ?_)
  | (with_reducible refine w_meth ?_)
  | (with_reducible refine w_make ?_)
  | (with_reducible refine w_sfld ?_))
local macro_rules | `(tactic| walk_at "go") => `(tactic| repeat walk_at "go1")

/-! ### the ways as tuples -/
def TR (H : Hp) (ts : List Addr) (rows : List (List Int)) : Prop := Paired (fun t r => FT H t (r.map V.int)) ts rows
def TW (H : Hp) (t : Addr) (rows : List (List Int)) : Prop := ∃ ts : List Addr, FT H t (ts.map V.ref) ∧ TR H ts rows
theorem TR.mono {H H' : Hp} (e : Same H H') : ∀ {ts : List Addr} {rows : List (List Int)}, TR H ts rows → TR H' ts rows
  | _, _, .nil => .nil
  | _, _, .cons r t => .cons (r.mono e) (TR.mono e t)
theorem TW.mono {H H' : Hp} (e : Same H H') {t : Addr} {rows : List (List Int)} (h : TW H t rows) : TW H' t rows := by
  obtain ⟨ts, h1, h2⟩ := h
  exact ⟨ts, h1.mono e, h2.mono e⟩
theorem TR.length {H : Hp} {ts : List Addr} {rows : List (List Int)} (h : TR H ts rows) : ts.length = rows.length := Paired.length h
theorem TR.snoc {H : Hp} : ∀ {ts : List Addr} {rows : List (List Int)} {a : Addr} {r : List Int}, TR H ts rows → FT H a (r.map V.int) → TR H (ts ++ [a]) (rows ++ [r])
  | _, _, _, _, .nil, h => .cons h .nil
  | _, _, _, _, .cons r t, h => .cons r (TR.snoc t h)
theorem TR.get {H : Hp} : ∀ {ts : List Addr} {rows : List (List Int)} {i : Nat} {r : List Int}, TR H ts rows → rows[i]? = some r → ∃ a, ts[i]? = some a ∧ FT H a (r.map V.int)
  | _, _, _, _, .nil, e => by simp at e
  | _, _, 0, r, .cons h t, e => by simp at e; subst e; exact ⟨_, rfl, h⟩
  | _, _, i + 1, r, .cons h t, e => by
    obtain ⟨a, h1, h2⟩ := TR.get (i := i) t (by simpa using e)
    exact ⟨a, by simpa using h1, h2⟩
/-! ### coming from a place to another -/
inductive Rch (rows : List (List Int)) (a : Int) : Int → Prop where
  | refl : Rch rows a a
  | step {b c : Int} {r : List Int} : Rch rows a b → 0 ≤ b → rows[b.toNat]? = some r → c ∈ r → Rch rows a c
theorem Valid.way {rows : List (List Int)} (v : Valid rows) {b c : Int} {r : List Int} (h : rows[b.toNat]? = some r) (hc : c ∈ r) : 0 ≤ c ∧ c < (rows.length : Int) := (v.row r (List.mem_of_getElem? h)).2 c hc
theorem Rch.range {rows : List (List Int)} (v : Valid rows) {a b : Int} (h : Rch rows a b) (h0 : 0 ≤ a ∧ a < (rows.length : Int)) : 0 ≤ b ∧ b < (rows.length : Int) := by
  cases h with
  | refl => exact h0
  | step h1 h2 h3 h4 => exact v.way h3 h4
/-- one place's ways are looked at -/
def visit1 (s : List Int × List Int) (c : Int) : List Int × List Int := if c ∈ s.1 then s else (s.1 ++ [c], s.2 ++ [c])
structure Seen (rows : List (List Int)) (a : Int) (R W : List Int) : Prop where
  nd : R.Nodup
  wd : W.Nodup
  st : a ∈ R
  sub : ∀ x ∈ W, x ∈ R
  ok : ∀ x ∈ R, 0 ≤ x ∧ x < (rows.length : Int) ∧ Rch rows a x
  done : ∀ x ∈ R, x ∈ W ∨ ∀ r, rows[x.toNat]? = some r → ∀ c ∈ r, c ∈ R
/-- while b's ways are looked at: the first ones are seen -/
structure Seen1 (rows : List (List Int)) (a b : Int) (r : List Int) (j : Nat) (R W : List Int) : Prop where
  nd : R.Nodup
  wd : W.Nodup
  st : a ∈ R
  sub : ∀ x ∈ W, x ∈ R
  ok : ∀ x ∈ R, 0 ≤ x ∧ x < (rows.length : Int) ∧ Rch rows a x
  done : ∀ x ∈ R, x ∈ W ∨ x = b ∨ ∀ r, rows[x.toNat]? = some r → ∀ c ∈ r, c ∈ R
  part : ∀ c ∈ r.take j, c ∈ R
  bR : b ∈ R
theorem Seen1.turn {rows : List (List Int)} {a b : Int} {r : List Int} {j : Nat} {R W : List Int} (v : Valid rows) (h : Seen1 rows a b r j R W) (hb : rows[b.toNat]? = some r) {c : Int} (hc : r[j]? = some c) :
    (c ∈ R → Seen1 rows a b r (j + 1) R W) ∧ (c ∉ R → Seen1 rows a b r (j + 1) (R ++ [c]) (W ++ [c])) := by
  have ht : r.take (j + 1) = r.take j ++ [c] := by rw [List.take_add_one, hc]; rfl
  have hcr := List.mem_of_getElem? hc
  have b0 := (h.ok b h.bR)
  refine ⟨fun hm => ⟨h.nd, h.wd, h.st, h.sub, h.ok, h.done, fun x hx => ?_, h.bR⟩, fun hm => ⟨?_, ?_, ?_, ?_, ?_, ?_, ?_, ?_⟩⟩
  · rw [ht] at hx
    rcases List.mem_append.mp hx with q | q
    · exact h.part x q
    · rw [List.mem_singleton.mp q]; exact hm
  · refine List.nodup_append.mpr ⟨h.nd, by simp, fun x hx y hy e => hm ?_⟩
    rw [List.mem_singleton.mp hy] at e
    rw [← e]; exact hx
  · refine List.nodup_append.mpr ⟨h.wd, by simp, fun x hx y hy e => hm ?_⟩
    rw [List.mem_singleton.mp hy] at e
    rw [← e]; exact h.sub x hx
  · exact List.mem_append_left _ h.st
  · intro x hx
    rcases List.mem_append.mp hx with q | q
    · exact List.mem_append_left _ (h.sub x q)
    · exact List.mem_append_right _ q
  · intro x hx
    rcases List.mem_append.mp hx with q | q
    · exact h.ok x q
    · rw [List.mem_singleton.mp q]
      have := v.way hb hcr
      exact ⟨this.1, this.2, .step b0.2.2 b0.1 hb hcr⟩
  · intro x hx
    rcases List.mem_append.mp hx with q | q
    · rcases h.done x q with z | z | z
      · exact .inl (List.mem_append_left _ z)
      · exact .inr (.inl z)
      · exact .inr (.inr fun r hr c hc => List.mem_append_left _ (z r hr c hc))
    · exact .inl (List.mem_append_right _ q)
  · intro x hx
    rw [ht] at hx
    rcases List.mem_append.mp hx with q | q
    · exact List.mem_append_left _ (h.part x q)
    · exact List.mem_append_right _ q
  · exact List.mem_append_left _ h.bR
theorem Seen.begin {rows : List (List Int)} {a b : Int} {r : List Int} {R W : List Int} (h : Seen rows a R (W ++ [b])) : Seen1 rows a b r 0 R W :=
  ⟨h.nd, (List.nodup_append.mp h.wd).1, h.st, fun x hx => h.sub x (List.mem_append_left _ hx), h.ok, fun x hx => by
    rcases h.done x hx with z | z
    · rcases List.mem_append.mp z with q | q
      · exact .inl q
      · exact .inr (.inl (List.mem_singleton.mp q))
    · exact .inr (.inr z), fun c hc => by simp at hc, h.sub b (List.mem_append_right _ (List.mem_singleton.mpr rfl))⟩
theorem Seen1.finish {rows : List (List Int)} {a b : Int} {r : List Int} {R W : List Int} (h : Seen1 rows a b r r.length R W) (hb : rows[b.toNat]? = some r) : Seen rows a R W :=
  ⟨h.nd, h.wd, h.st, h.sub, h.ok, fun x hx => by
    rcases h.done x hx with z | z | z
    · exact .inl z
    · subst z
      refine .inr fun r' hr' c hc => ?_
      rw [hb] at hr'; cases hr'
      exact h.part c (by rw [List.take_length]; exact hc)
    · exact .inr z⟩
theorem Seen.all {rows : List (List Int)} {a : Int} {R : List Int} (h : Seen rows a R []) : ∀ x, x ∈ R ↔ Rch rows a x := by
  intro x
  refine ⟨fun hx => (h.ok x hx).2.2, fun hx => ?_⟩
  induction hx with
  | refl => exact h.st
  | step h1 h2 h3 h4 ih =>
    rcases h.done _ ih with z | z
    · simp at z
    · exact z _ h3 _ h4
def spReached : Sp := fun vs H Q _ => ∃ (B : Hp) (M : List (Addr × HO)) (t : Addr) (rows : List (List Int)) (a : Int), vs = [.ref t, .int a] ∧ Hs B M H ∧ TW B t rows ∧ Valid rows ∧ 0 ≤ a ∧ a < (rows.length : Int) ∧
  ∀ (p : Addr) (H' : Hp) (R : List Int), Hs B ((p, .lst (R.map V.int)) :: M) H' → R.Nodup → (∀ x, x ∈ R ↔ Rch rows a x) → Q (.ref p) H'
-- _reached: 0 ways, 1 start, 2 reached, 3 waiting, 4 row, 5 place
abbrev s_reached : Stmt := top 23
theorem sc_reached : FnScope ["ways", "start", "reached", "waiting", "row", "place"] ["ways", "start"] (defScope s_reached) := ⟨rfl, rfl, rfl, by decide +kernel, rfl, by decide +kernel, by decide +kernel⟩
section
variable {P : Program} {w : World} {K : PySem.W.Frag} {mg : Str → Option Value} {base : Heap}
theorem ok_reached (T : Names mg) (G : Glo K mg "_reached" s_reached) : Cal P w K mg base "_reached" 1 ["ways", "start"] spReached := by
  refine G.cal (k := 0) sc_reached (fun _ _ _ _ _ _ us hl => match us, hl with | [_, _], _ => rfl) (fun vs H Q E h => ?_) (fun f cdv A outer s H vs Q E hr h => ?_)
  · obtain ⟨B, M, t, rows, a, rfl, _⟩ := h; rfl
  obtain ⟨B, M, t, rows, a, rfl, S, ⟨ts, ht, hT⟩, hv, a0, a1, hQ⟩ := h
  have hn := hv.le
  have htl := hT.length
  refine ⟨_, (pss_cons (ps_set (i := 2) sc_reached.nd rfl (Or.inl rfl) (pe_lst (pa_cons (pv 1) pa_nil))) (pss_cons (ps_set (i := 3) sc_reached.nd rfl (Or.inl rfl) (pe_lst (pa_cons (pv 1) pa_nil))) (pss_cons (ps_while PassesOwn.never (pt_truthK K (pv 3) (by intro _; rfl)) (pss_cons (ps_set (i := 4) sc_reached.nd rfl (Or.inl rfl) (pe_ix (k_ixT K) (pv 0) (pe_bm0K K PySem.F.plainAttrs_list PySem.F.slot_list_pop PySem.F.type_list_pop mt_pop (pv 3)) (fun _ _ => rfl))) (pss_one (ps_for PassesOwn.never rfl (pi_tupK K (pv 4)) (pg_name (i := 5) sc_reached.nd rfl (Or.inl rfl)) (pss_one (ps_if (pt_cmpR (k_notIn K) (pv 5) (pv 2) (by rfl)) (pss_cons (ps_expr (pe_bmK K PySem.F.plainAttrs_list PySem.F.slot_list_append PySem.F.type_list_append mt_append (pv 2) (pa_cons (pv 5) pa_nil))) (pss_one (ps_expr (pe_bmK K PySem.F.plainAttrs_list PySem.F.slot_list_append PySem.F.type_list_append mt_append (pv 3) (pa_cons (pv 5) pa_nil))))) pss_nil)))))) (pss_one (ps_ret (pv 2)))))), ?_⟩
  walk_at "go"
  refine w_lst S (len_ok (by simp)) fun p H1 S1 => ?_
  walk_at "go"
  refine w_lst S1 (len_ok (by simp)) fun q H2 S2 => ?_
  walk_at "go"
  refine w_while (α := List Int × List Int) (fun z σ H => ∃ v4 v5 : Option V, σ = [some (.ref t), some (.int a), some (.ref p), some (.ref q), v4, v5] ∧ Hs B ((q, .lst (z.2.map V.int)) :: (p, .lst (z.1.map V.int)) :: M) H ∧ Seen rows a z.1 z.2)
    (fun z => 2 * (8 - z.1.length) + z.2.length) ([a], [a]) ⟨none, none, rfl, S2, ?_⟩ ?_
  · refine ⟨by simp, by simp, by simp, by simp, ?_, by simp⟩
    intro x hx
    rw [List.mem_singleton.mp hx]
    exact ⟨a0, a1, .refl⟩
  · rintro ⟨R, W⟩ σ H3 ⟨v4, v5, rfl, S3, hs⟩
    have hRl : R.length ≤ 8 := Nat.le_trans (pigeon rows.length R hs.nd fun x hx => ⟨(hs.ok x hx).1, (hs.ok x hx).2.1⟩) hn
    walk_at "go"
    refine w_truL (sqL_of (S3.get 0)) ?_
    rcases List.eq_nil_or_concat W with rfl | ⟨W', b, eW⟩
    · refine iteF ?_
      walk_at "go"
      exact hQ p _ R (S3.drop 0) hs.nd hs.all
    · rw [List.concat_eq_append] at eW
      subst eW
      dsimp only at S3 hs ⊢
      rw [show (!(List.map V.int (W' ++ [b])).isEmpty) = true by simp]
      refine iteT (whb ?_)
      have hbR : b ∈ R := hs.sub b (by simp)
      have hb := hs.ok b hbR
      walk_at "go"
      refine ⟨tyL (sqL_of (S3.get 0)), ?_⟩
      refine w_pop S3 0 rfl (y := .int b) (by simp) fun H4 S4 => ?_
      obtain ⟨r, hr1⟩ : ∃ r, rows[b.toNat]? = some r := ⟨_, List.getElem?_eq_getElem (by omega)⟩
      obtain ⟨tb, htb, hr2⟩ := hT.get hr1
      refine w_ixT (v := .ref tb) ((ht.mono S4.ex).sq) (at_of (j := b.toNat) (by omega) (by rw [List.getElem?_map, htb]; rfl)) ?_
      walk_at "go"
      refine w_iTE ((hr2.mono S4.ex).sq) ?_
      have e4 : (List.map V.int (W' ++ [b])).dropLast = W'.map V.int := by rw [List.map_append]; simp
      have S4 : Hs B ((q, .lst (W'.map V.int)) :: (p, .lst (R.map V.int)) :: M) H4 := by
        rw [← e4]; exact S4
      refine for_tpl (xs := r.map V.int) (fun j σ H => ∃ (R' X' : List Int) (v5 : Option V), σ = [some (.ref t), some (.int a), some (.ref p), some (.ref q), some (.ref tb), v5] ∧ Hs B ((q, .lst ((W' ++ X').map V.int)) :: (p, .lst (R'.map V.int)) :: M) H ∧ Seen1 rows a b r j R' (W' ++ X') ∧ R'.length = R.length + X'.length)
        ⟨R, [], v5, rfl, by rw [List.append_nil]; exact S4, by rw [List.append_nil]; exact hs.begin, rfl⟩ (fun i σ H _ ⟨_, _, _, _, S5, _⟩ => (hr2.mono S5.ex).sq) ?_ ?_
      · rintro j x σ H5 hx ⟨R', X', v5, rfl, S5, h1, hlen⟩
        obtain ⟨c, hc, rfl⟩ : ∃ c, r[j]? = some c ∧ V.int c = x := by simpa using hx
        have hRl' : R'.length ≤ 8 := Nat.le_trans (pigeon rows.length R' h1.nd fun x hx => ⟨(h1.ok x hx).1, (h1.ok x hx).2.1⟩) hn
        obtain ⟨t1, t2⟩ := h1.turn hv hr1 hc
        walk_at "go"
        refine w_inL (sqL_of (S5.get 1)) rfl (flat_ints _) ?_
        rw [inV_int]
        walk_at "go"
        by_cases hm : c ∈ R'
        · rw [decide_eq_true hm]
          refine iteF ?_
          walk_at "go"
          exact ⟨R', X', some (.int c), rfl, S5, t1 hm, hlen⟩
        · rw [decide_eq_false hm]
          refine iteT ?_
          have t3 := t2 hm
          have hX : (W' ++ X').length ≤ 8 := Nat.le_trans (pigeon rows.length _ h1.wd fun x hx => ⟨(h1.ok x (h1.sub x hx)).1, (h1.ok x (h1.sub x hx)).2.1⟩) hn
          walk_at "go"
          refine ⟨tyL (sqL_of (S5.get 1)), ?_⟩
          walk_at "go"
          refine w_append S5 1 rfl (len_lt (by simp; omega)) fun H6 S6 => ?_
          walk_at "go"
          refine ⟨tyL (sqL_of (S6.get 0)), ?_⟩
          walk_at "go"
          refine w_append S6 0 rfl (len_lt (by simp at hX; simp; omega)) fun H7 S7 => ?_
          refine ⟨R' ++ [c], X' ++ [c], some (.int c), rfl, ?_, ?_, by simp; omega⟩
          · rw [← List.append_assoc, List.map_append (l₁ := W' ++ X'), List.map_append (l₁ := R')]
            exact S7
          · rw [← List.append_assoc]; exact t3
      · rintro σ H5 ⟨R', X', v5, rfl, S5, h1, hlen⟩
        rw [List.length_map] at h1
        have hRl' : R'.length ≤ 8 := Nat.le_trans (pigeon rows.length R' h1.nd fun x hx => ⟨(h1.ok x hx).1, (h1.ok x hx).2.1⟩) hn
        exact ⟨(R', W' ++ X'), by simp; omega, some (.ref tb), v5, rfl, S5, h1.finish hr1⟩
end
end Rw

namespace Rw
open PySem PySem.Spec PyProof.Rows L2
local macro_rules | `(tactic| walk_at "go1") => `(tactic| first
  | (with_reducible refine w_seq ?_)
  | (with_reducible refine w_asg ?_)
  | (with_reducible refine w_name ?_)
  | (with_reducible refine w_drop ?_)
  | (with_reducible refine w_ret ?_)
  | (with_reducible refine w_next ?_)
  | (with_reducible refine w_op ?_)
  | (with_reducible refine w_un ?_)
  | (with_reducible refine w_c ?_)
  | (with_reducible refine w_var (by with_unfolding_all rfl) ?_)
  | (with_reducible refine w_rI0 ?_)
  | (with_reducible refine w_rU ?_)
  | ((with_reducible refine w_mod ?_ ?_); (show (0 : Int) < _); omega)
  | ((with_reducible refine w_div ?_ ?_); exact And.intro (by omega) (by omega))
  | ((with_reducible refine w_mul ?_ ?_); (first | exact Or.inl (And.intro (by omega) (by omega)) | exact Or.inr (And.intro (by omega) (by omega))))
  | (with_reducible refine w_ifS ?_)
  | (with_reducible refine w_if ?_)
  | (with_reducible refine w_test ?_)
  | (with_reducible refine w_B ?_)
  | (with_reducible refine w_bl ?_)
  | (with_reducible refine w_not ?_)
  | (with_reducible refine w_and ?_)
  | (with_reducible refine w_or ?_)
  | (with_reducible refine w_cons ?_)
  | (with_reducible refine w_nil ?_)
  | (with_reducible refine w_call ?_)
  | (with_reducible refine w_cb ?_)
  | (with_reducible refine w_bm0 ?_)
  | (with_reducible refine w_bm ?_)
  | (with_reducible refine w_tlst ?_)
  | (with_reducible refine w_ttup ?_)
  | (with_reducible refine w_sub ?_)
  | (with_reducible refine w_for ?_)
  | (with_reducible refine w_rng1 ?_)
  | ((with_reducible refine w_rngE ?_ ?_ ?_); omega; omega)
  | (with_reducible refine w_iL ?_)
  | (with_reducible refine w_iT ?_)
  | (with_reducible refine w_iE ?_)
  | (with_reducible refine w_iZ ?_)
  | (with_reducible refine w_lc ?_)
  | (with_reducible refine w_yes ?_)
  | (with_reducible refine w_gcons ?_)
  | (with_reducible refine w_gnil ?_)
  | (with_reducible refine w_max2 ?_)
  | (with_reducible refine w_sl ?_)
  | (with_reducible refine w_part ?_)
  | (with_reducible refine w_partI ?_)
  | (with_reducible refine w_nopart ?_)
  | (with_reducible refine w_isT ?_)
  | (with_reducible refine w_notT ?_)
  | (with_reducible refine w_isB ?_)
  | (with_reducible refine w_notB ?_)
  | (with_reducible refine w_isN ?_)
  | (with_reducible refine w_notN ?_)
  | (with_reducible refine w_fld ?_)
  | (with_reducible refine w_ftm ?_)
  | (with_reducible refine w_lrg ?_)
  | (with_reducible refine w_rg1 ?_)
  | (with_reducible refine w_rg1E ?_)
  | (with_reducible refine w_tru ?_)
  | (with_reducible refine w_truB ?_)
  | (with_reducible refine w_truI ?_)
  | (with_reducible refine w_notT' ?_)
  | (with_reducible refine w_andT ?_)
  | (with_reducible refine w_orT ?_)
  | (with_reducible refine w_andV ?_)
  | (with_reducible refine w_orV ?_)
  | (with_reducible refine w_andE ?_)
  | (with_reducible refine w_orE ?_)
  | (with_reducible refine w_notV ?_)
  | (with_reducible refine w_notE ?_)
  | (with_reducible refine w_chain ?_)
  | (with_reducible refine w_chainI ?_)
  | (with_reducible refine w_meth ?_)
  | (with_reducible refine w_make ?_)
  | (with_reducible refine w_sfld ?_))
local macro_rules | `(tactic| walk_at "go") => `(tactic| repeat walk_at "go1")

local macro_rules | `(tactic| walk_at "go1") => `(tactic| first
  | (with_reducible refine w_callX ?_)
  | (with_reducible refine w_methX ?_)
  | (with_reducible refine w_makeX ?_))
/-! ### the web -/
structure WebAt (C : Addr) (H : Hp) (a : Addr) (rows : List (List Int)) : Prop where
  ex : ∃ dx t, H a = some (.ins C dx [("_ways", .ref t)]) ∧ TW H t rows
theorem WebAt.mono {C : Addr} {H H' : Hp} {a : Addr} {rows : List (List Int)} (e : Same H H') (h : WebAt C H a rows) : WebAt C H' a rows := by
  obtain ⟨dx, t, h1, h2⟩ := h.ex
  exact ⟨dx, t, e _ _ h1, h2.mono e⟩
structure WebT (K : PySem.W.Frag) (mg : Str → Option Value) (C : Addr) : Prop where
  cl : Cls K C
  nw : NoAttr K C "_ways"
def sumI (f : List Int → Int) (rows : List (List Int)) : Int := (rows.map f).sum
def waysIn (rows : List (List Int)) (i : Int) : Int := (rows.map fun r => ((r.count i : Nat) : Int)).sum
def Joined (rows : List (List Int)) : Prop := ∀ i x : Int, 0 ≤ i → i < (rows.length : Int) → 0 ≤ x → x < (rows.length : Int) → Rch rows i x
def Balanced (rows : List (List Int)) : Prop := ∀ (i : Nat) (r : List Int), rows[i]? = some r → waysIn rows (i : Int) = (r.length : Int)
structure EvenW (rows : List (List Int)) : Prop where
  noRest : ∀ r ∈ rows, r ≠ []
  bal : Balanced rows
  join : Joined rows
def restsTo (rows : List (List Int)) (n : Nat) : List Int := ((List.range n).filter fun i => rows[i]? == some []).map fun i : Nat => (i : Int)
def spMany (C : Addr) : Sp := fun vs H Q _ => ∃ (a : Addr) (rows : List (List Int)), vs = [.ref a] ∧ WebAt C H a rows ∧ Q (.int (rows.length : Nat)) H
def spCheck (C : Addr) : Sp := fun vs H Q _ => ∃ (a : Addr) (rows : List (List Int)) (i : Int), vs = [.ref a, .int i] ∧ WebAt C H a rows ∧ 0 ≤ i ∧ i < (rows.length : Int) ∧ Q .non H
def spIsRest (C : Addr) : Sp := fun vs H Q _ => ∃ (a : Addr) (rows : List (List Int)) (i : Int) (r : List Int), vs = [.ref a, .int i] ∧ WebAt C H a rows ∧ 0 ≤ i ∧ rows[i.toNat]? = some r ∧ Q (.bl r.isEmpty) H
def spComes (C : Addr) : Sp := fun vs H Q _ => ∃ (B : Hp) (M : List (Addr × HO)) (a : Addr) (rows : List (List Int)) (i j : Int), vs = [.ref a, .int i, .int j] ∧ Hs B M H ∧ WebAt C B a rows ∧ Valid rows ∧ 0 ≤ i ∧ i < (rows.length : Int) ∧ 0 ≤ j ∧ j < (rows.length : Int) ∧
  ∀ (b : Bool) (H' : Hp), Hs B M H' → (b = true ↔ Rch rows i j) → Q (.bl b) H'
def spWaysIn : Sp := fun vs H Q _ => ∃ (B : Hp) (M : List (Addr × HO)) (t : Addr) (rows : List (List Int)) (i : Int), vs = [.ref t, .int i] ∧ Hs B M H ∧ TW B t rows ∧ Valid rows ∧ ∀ H', Hs B M H' → Q (.int (waysIn rows i)) H'
def spRowsM (C : Addr) : Sp := fun vs H Q _ => ∃ (B : Hp) (M : List (Addr × HO)) (a : Addr) (rows : List (List Int)), vs = [.ref a] ∧ Hs B M H ∧ WebAt C B a rows ∧ Valid rows ∧
  ∀ (p : Addr) (as : List Addr) (B' H' : Hp), Same B B' → Hs B' ((p, .lst (as.map V.ref)) :: M) H' → LR B' as rows → (∀ x ∈ as, B x = none) → Q (.ref p) H'
def spRests (C : Addr) : Sp := fun vs H Q _ => ∃ (B : Hp) (M : List (Addr × HO)) (a : Addr) (rows : List (List Int)), vs = [.ref a] ∧ Hs B M H ∧ WebAt C B a rows ∧ Valid rows ∧
  ∀ (p : Addr) (H' : Hp), Hs B ((p, .lst ((restsTo rows rows.length).map V.int)) :: M) H' → Q (.ref p) H'
def spBool (C : Addr) (φ : List (List Int) → Prop) : Sp := fun vs H Q _ => ∃ (B : Hp) (M : List (Addr × HO)) (a : Addr) (rows : List (List Int)), vs = [.ref a] ∧ Hs B M H ∧ WebAt C B a rows ∧ Valid rows ∧
  ∀ (b : Bool) (H' : Hp), Hs B M H' → (b = true ↔ φ rows) → Q (.bl b) H'
def spInit (C : Addr) : Sp := fun vs H Q _ => ∃ (B : Hp) (M : List (Addr × HO)) (x dx p : Addr) (rows : List (List Int)), vs = [.ref x, .ref p] ∧ Hs B ((x, .ins C dx []) :: (dx, .own x) :: M) H ∧ LL B p rows ∧ Valid rows ∧
  ∀ B' H', Same B B' → Hs B' M H' → WebAt C B' x rows → Q .non H'
/-! ### what is no place -/
def spCheckX (C CP : Addr) : Sp := fun vs H Q E => ∃ (a : Addr) (rows : List (List Int)) (v : V) (b : Bool), vs = [.ref a, v] ∧ WebAt C H a rows ∧ PlD H (rows.length : Nat) v b ∧ (b = true → Q .non H) ∧ (b = false → rows.length ≤ 8 ∧ E (.ref CP) none H)
def spIsRestX (C CP : Addr) : Sp := fun vs H Q E => ∃ (a : Addr) (rows : List (List Int)) (v : V) (b : Bool), vs = [.ref a, v] ∧ WebAt C H a rows ∧ PlD H (rows.length : Nat) v b ∧ (b = true → ∀ (i : Int) (r : List Int), v = .int i → 0 ≤ i → rows[i.toNat]? = some r → Q (.bl r.isEmpty) H) ∧ (b = false → rows.length ≤ 8 ∧ E (.ref CP) none H)
-- __init__: 0 self, 1 rows, 2 row
abbrev s_Web_init : Stmt := inClass (top 25) 0
theorem sc_Web_init : FnScope ["self", "rows", "row"] ["self", "rows"] (defScope s_Web_init) := ⟨rfl, rfl, rfl, by decide +kernel, rfl, by decide +kernel, by decide +kernel⟩
-- rows: 0 self, 1 row
abbrev s_Web_rows : Stmt := inClass (top 25) 1
theorem sc_Web_rows : FnScope ["self", "row"] ["self"] (defScope s_Web_rows) := ⟨rfl, rfl, rfl, by decide +kernel, rfl, by decide +kernel, by decide +kernel⟩
-- many: 0 self
abbrev s_Web_many : Stmt := inClass (top 25) 2
theorem sc_Web_many : FnScope ["self"] ["self"] (defScope s_Web_many) := ⟨rfl, rfl, rfl, by decide +kernel, rfl, by decide +kernel, by decide +kernel⟩
-- is_rest: 0 self, 1 place
abbrev s_Web_is_rest : Stmt := inClass (top 25) 4
theorem sc_Web_is_rest : FnScope ["self", "place"] ["self", "place"] (defScope s_Web_is_rest) := ⟨rfl, rfl, rfl, by decide +kernel, rfl, by decide +kernel, by decide +kernel⟩
-- comes: 0 self, 1 place, 2 other
abbrev s_Web_comes : Stmt := inClass (top 25) 5
theorem sc_Web_comes : FnScope ["self", "place", "other"] ["self", "place", "other"] (defScope s_Web_comes) := ⟨rfl, rfl, rfl, by decide +kernel, rfl, by decide +kernel, by decide +kernel⟩
-- check_place: 0 self, 1 place
abbrev s_Web_check_place : Stmt := inClass (top 25) 7
theorem sc_Web_check_place : FnScope ["self", "place"] ["self", "place"] (defScope s_Web_check_place) := ⟨rfl, rfl, rfl, by decide +kernel, rfl, by decide +kernel, by decide +kernel⟩
section
variable {P : Program} {w : World} {K : PySem.W.Frag} {mg : Str → Option Value} {base : Heap} {CW CP CB : Addr}
theorem ok_many (T : Names mg) (TW_ : WebT K mg CW) (G : GloM K CW "many" "Web.many" s_Web_many) : CalM P w K mg base CW "many" 1 ["self"] (spMany CW) := by
  refine G.cal (k := 0) sc_Web_many (fun _ _ _ _ _ _ us hl => match us, hl with | [_], _ => rfl) (fun vs H Q E h => ?_) (fun f cdv A outer s H vs Q E hr h => ?_)
  · obtain ⟨a, rows, rfl, _⟩ := h; rfl
  obtain ⟨a, rows, rfl, ⟨dx, t, ha, ts, ht, hT⟩, hQ⟩ := h
  have htl := hT.length
  refine ⟨_, (pss_one (ps_ret (pe_callB (k_len K) rfl T.n_len boot_len (pa_cons (pe_fldK K (pv 0) rfl) pa_nil)))), ?_⟩
  walk_at "go"
  refine w_fldE ha TW_.cl TW_.nw look1 ?_
  walk_at "go"
  refine w_lenT ht.sq ?_
  rw [List.length_map, htl]
  exact hQ
theorem ok_rowsM (T : Names mg) (TW_ : WebT K mg CW) (G : GloM K CW "rows" "Web.rows" s_Web_rows) : CalM P w K mg base CW "rows" 1 ["self"] (spRowsM CW) := by
  refine G.cal (k := 0) sc_Web_rows (fun _ _ _ _ _ _ us hl => match us, hl with | [_], _ => rfl) (fun vs H Q E h => ?_) (fun f cdv A outer s H vs Q E hr h => ?_)
  · obtain ⟨B, M, a, rows, rfl, _⟩ := h; rfl
  obtain ⟨B, M, a, rows, rfl, S, ⟨dx, t, ha, ts, ht, hT⟩, hv, hQ⟩ := h
  have hle := hv.le
  have htl := hT.length
  refine ⟨_, (pss_one (ps_ret (pe_lc (own := [("row", 1)]) rfl sc_Web_rows.nd (pi_tupK K (pe_fldK K (pv 0) rfl)) (blkOk_by (own := [("row", 1)]) (N := ["self", "row"]) (sc := defScope s_Web_rows) (by decide +kernel)) (fun _ _ _ _ _ => (pg_name (i := 1) sc_Web_rows.nd rfl (Or.inl rfl))) (fun _ _ _ _ _ => pts_nil) (fun _ _ _ _ _ => (pe_callTy (k_list K) rfl T.n_list (by decide +kernel) (pa_cons (pv 1) pa_nil)))))), ?_⟩
  walk_at "go"
  refine w_fldE (S.ex _ _ ha) TW_.cl TW_.nw look1 ?_
  refine w_iTE ((ht.mono S.ex).sq) ?_
  refine lc_F S ht (fun i B' acc => ∃ as : List Addr, acc = as.map V.ref ∧ LR B' as (rows.take i) ∧ ∀ x ∈ as, B x = none) ⟨[], rfl, .nil, by simp⟩ ?_ ?_
  · rintro i x D B' acc H' hi hli e S' ⟨as, rfl, hR, hf⟩
    obtain ⟨b, hb, rfl⟩ : ∃ b, ts[i]? = some b ∧ V.ref b = x := by simpa using hi
    have hil : i < ts.length := (List.getElem?_eq_some_iff.mp hb).1
    obtain ⟨r, hr1, hr2⟩ : ∃ r, rows[i]? = some r ∧ FT B b (r.map V.int) := by
      have hir : i < rows.length := by omega
      obtain ⟨b', h1, h2⟩ := hT.get (i := i) (List.getElem?_eq_getElem hir)
      rw [hb] at h1; cases h1
      exact ⟨_, List.getElem?_eq_getElem hir, h2⟩
    walk_at "go"
    refine ⟨rfl, ?_⟩
    walk_at "go"
    refine iteT ?_
    walk_at "go"
    refine w_listT S' ((hr2.mono e).mono S'.ex).sq fun q H2 S2 => ?_
    obtain ⟨B2, e2, hq, S3⟩ := S2.shut 0
    refine lcp S3 (e.trans e2) hli (by omega) ⟨as ++ [q], by simp, ?_, ?_⟩
    · rw [List.take_add_one, hr1]
      exact (hR.mono e2).snoc hq
    · intro x hx
      rcases List.mem_append.mp hx with z | z
      · exact hf x z
      · rw [List.mem_singleton.mp z]
        exact e.free (S2.out 0)
  · rintro D B' acc H' e S' hli ⟨as, rfl, hR, hf⟩
    have e1 : rows.take (ts.map V.ref).length = rows := List.take_of_length_le (by simp; omega)
    rw [e1] at hR
    exact hQ D as B' H' e S' hR hf
theorem ok_checkX (T : Names mg) (T_Web : Cls K CW) (R_BadPlace : ErrT K mg "BadPlace" CP) (G : GloM K CW "check_place" "Web.check_place" s_Web_check_place) (C_is_number : Cal P w K mg base "is_number" 1 ["thing", "least", "most"] spNum) (C_Web_many : CalM P w K mg base CW "many" 1 ["self"] (spMany CW)) : CalMX P w K mg base CW "check_place" 2 ["self", "place"] (spCheckX CW CP) := by
  refine G.calX (k := 1) sc_Web_check_place (fun _ _ _ _ _ _ us hl => match us, hl with | [_, _], _ => rfl) (fun vs H Q E h => ?_) (fun f cdv A outer s H vs Q E hr h => ?_)
  · obtain ⟨a, rows, i, b, rfl, _⟩ := h; rfl
  obtain ⟨a, rows, i, b, rfl, hw, hp, hQ, hE⟩ := h
  obtain ⟨dx, t, ha, _⟩ := hw.ex
  refine ⟨_, (pss_one (ps_if (pt_not (pt_val (pe_cal C_is_number hr rfl (pa_cons (pv 1) (pa_cons pe_int (pa_cons (pe_op op_sub (pe_calM0 (pv 0) T_Web C_Web_many hr) pe_int) pa_nil)))))) (pss_one (ps_raiseE R_BadPlace rfl (takes_of rfl rfl rfl rfl) (pe_joined (.cons pe_str (.cons (pe_fmt (pe_op op_sub (pe_calM0 (pv 0) T_Web C_Web_many hr) pe_int)) .nil))) rfl)) pss_nil)), ?_⟩
  walk_at "go"
  refine w_methE ha (look1n (by decide +kernel)) ?_
  walk_at "go"
  refine ⟨a, rows, rfl, hw, ?_⟩
  walk_at "go"
  refine ⟨i, 0, _, b, rfl, hp.num, ?_⟩
  walk_at "go"
  cases b with
  | true =>
    refine iteF ?_
    exact hQ rfl
  | false =>
    obtain ⟨hle, hE⟩ := hE rfl
    refine iteT ?_
    refine w_jsC 0 (Nat.le_refl _) (k := fun acc hacc => ?_)
    refine w_jsF ?_
    walk_at "go"
    refine w_methE ha (look1n (by decide +kernel)) ?_
    walk_at "go"
    refine ⟨a, rows, rfl, hw, ?_⟩
    walk_at "go"
    refine w_fmtI _ hacc (by decide +kernel) (by omega) fun acc' _ => ?_
    exact hE
theorem plD_true {H : Hp} {m : Int} {v : V} (h : PlD H m v true) : ∃ i, v = .int i ∧ 0 ≤ i ∧ i < m := by
  generalize e : true = b at h
  cases h with
  | int i => exact ⟨i, rfl, of_decide_eq_true e.symm⟩
  | oth t h => cases e
theorem plD_int {H : Hp} {m i : Int} (h0 : 0 ≤ i) (h1 : i < m) : PlD H m (.int i) true := by
  rw [← decide_eq_true (show 0 ≤ i ∧ i < m from ⟨h0, h1⟩)]
  exact .int i
theorem good_check (F : CalMX P w K mg base CW "check_place" 2 ["self", "place"] (spCheckX CW CP)) : CalM P w K mg base CW "check_place" 2 ["self", "place"] (spCheck CW) := by
  refine F.calm (fun vs H Q h => ?_) fun vs H Q E h => h
  obtain ⟨a, rows, i, rfl, hw, h0, h1, hQ⟩ := h
  exact ⟨a, rows, .int i, true, rfl, hw, plD_int h0 h1, fun _ => hQ, fun z => nomatch z⟩
theorem ok_is_restX (T : Names mg) (TW_ : WebT K mg CW) (T_Web : Cls K CW) (G : GloM K CW "is_rest" "Web.is_rest" s_Web_is_rest) (XC_Web_check_place : CalMX P w K mg base CW "check_place" 2 ["self", "place"] (spCheckX CW CP)) : CalMX P w K mg base CW "is_rest" 3 ["self", "place"] (spIsRestX CW CP) := by
  refine G.calX (k := 2) sc_Web_is_rest (fun _ _ _ _ _ _ us hl => match us, hl with | [_, _], _ => rfl) (fun vs H Q E h => ?_) (fun f cdv A outer s H vs Q E hr h => ?_)
  · obtain ⟨a, rows, i, b, rfl, _⟩ := h; rfl
  obtain ⟨a, rows, v, b, rfl, hw, hp, hQ, hE⟩ := h
  obtain ⟨dx, t, ha, ts, ht, hT⟩ := hw.ex
  refine ⟨_, (pss_cons (ps_expr (pe_calMX (pv 0) T_Web XC_Web_check_place hr (takes_of rfl rfl rfl rfl) (fun _ _ _ _ h => h) (pa_cons (pv 1) pa_nil))) (pss_one (ps_ret (pe_notTK K (pe_ix (k_ixT K) (pe_fldK K (pv 0) rfl) (pv 1) (fun _ _ => rfl)))))), ?_⟩
  walk_at "go"
  refine w_methXE ha (look1n (by decide +kernel)) ?_
  walk_at "go"
  refine ⟨a, rows, v, b, rfl, hw, hp, fun hb => ?_, hE⟩
  subst hb
  obtain ⟨i, rfl, h0, h1⟩ := plD_true hp
  have hr0 : rows[i.toNat]? = some (rows[i.toNat]'(by omega)) := List.getElem?_eq_getElem (by omega)
  generalize rows[i.toNat]'(by omega) = r at hr0
  obtain ⟨tb, htb, hr2⟩ := hT.get hr0
  walk_at "go"
  refine w_fldE ha TW_.cl TW_.nw look1 ?_
  walk_at "go"
  refine w_ixT (v := .ref tb) ht.sq (at_of (j := i.toNat) (by omega) (by rw [List.getElem?_map, htb]; rfl)) ?_
  refine w_truT hr2.sq ?_
  rw [show (!!(List.map V.int r).isEmpty) = r.isEmpty by cases r <;> rfl]
  exact hQ rfl i r rfl h0 hr0
theorem good_is_rest (F : CalMX P w K mg base CW "is_rest" 3 ["self", "place"] (spIsRestX CW CP)) : CalM P w K mg base CW "is_rest" 3 ["self", "place"] (spIsRest CW) := by
  refine F.calm (fun vs H Q h => ?_) fun vs H Q E h => h
  obtain ⟨a, rows, i, r, rfl, hw, h0, hr, hQ⟩ := h
  have h1 := (List.getElem?_eq_some_iff.mp hr).1
  refine ⟨a, rows, .int i, true, rfl, hw, plD_int h0 (by omega), fun _ j r' ej _ er => ?_, fun z => nomatch z⟩
  cases ej
  rw [hr] at er
  cases er
  exact hQ
theorem ok_comes (T : Names mg) (TW_ : WebT K mg CW) (T_Web : Cls K CW) (G : GloM K CW "comes" "Web.comes" s_Web_comes) (C_Web_check_place : CalM P w K mg base CW "check_place" 2 ["self", "place"] (spCheck CW)) (C_reached : Cal P w K mg base "_reached" 2 ["ways", "start"] spReached) : CalM P w K mg base CW "comes" 3 ["self", "place", "other"] (spComes CW) := by
  refine G.cal (k := 2) sc_Web_comes (fun _ _ _ _ _ _ us hl => match us, hl with | [_, _, _], _ => rfl) (fun vs H Q E h => ?_) (fun f cdv A outer s H vs Q E hr h => ?_)
  · obtain ⟨B, M, a, rows, i, j, rfl, _⟩ := h; rfl
  obtain ⟨B, M, a, rows, i, j, rfl, S, hw, hv, i0, i1, j0, j1, hQ⟩ := h
  obtain ⟨dx, t, ha, hT⟩ := hw.ex
  refine ⟨_, (pss_cons (ps_expr (pe_calM (pv 0) T_Web C_Web_check_place hr (pa_cons (pv 1) pa_nil))) (pss_cons (ps_expr (pe_calM (pv 0) T_Web C_Web_check_place hr (pa_cons (pv 2) pa_nil))) (pss_one (ps_ret (pe_cmpR (k_in K) (pv 2) (pe_cal C_reached hr rfl (pa_cons (pe_fldK K (pv 0) rfl) (pa_cons (pv 1) pa_nil))) (by rfl)))))), ?_⟩
  walk_at "go"
  refine w_methE (S.ex _ _ ha) (look1n (by decide +kernel)) ?_
  walk_at "go"
  refine ⟨a, rows, i, rfl, hw.mono S.ex, i0, i1, ?_⟩
  walk_at "go"
  refine w_methE (S.ex _ _ ha) (look1n (by decide +kernel)) ?_
  walk_at "go"
  refine ⟨a, rows, j, rfl, hw.mono S.ex, j0, j1, ?_⟩
  walk_at "go"
  refine w_fldE (S.ex _ _ ha) TW_.cl TW_.nw look1 ?_
  walk_at "go"
  refine ⟨B, M, t, rows, i, rfl, S, hT, hv, i0, i1, fun p H' R S' nd hR => ?_⟩
  refine w_inL (sqL_of (S'.get 0)) rfl (flat_ints _) ?_
  rw [inV_int]
  refine hQ _ _ (S'.drop 0) ?_
  show decide (j ∈ R) = true ↔ _
  rw [decide_eq_true_eq]
  exact hR j
/-! what is no place, no web -/
def spComesX (C CP : Addr) : Sp := fun vs H Q E => ∃ (a : Addr) (rows : List (List Int)) (u v : V) (b c : Bool), vs = [.ref a, u, v] ∧ WebAt C H a rows ∧ rows.length ≤ 8 ∧ PlD H (rows.length : Nat) u b ∧ PlD H (rows.length : Nat) v c ∧ (b && c) = false ∧ E (.ref CP) none H
theorem ok_comesX (T : Names mg) (TW_ : WebT K mg CW) (T_Web : Cls K CW) (G : GloM K CW "comes" "Web.comes" s_Web_comes) (XC_Web_check_place : CalMX P w K mg base CW "check_place" 2 ["self", "place"] (spCheckX CW CP)) (C_reached : Cal P w K mg base "_reached" 2 ["ways", "start"] spReached) : CalMX P w K mg base CW "comes" 3 ["self", "place", "other"] (spComesX CW CP) := by
  refine G.calX (k := 2) sc_Web_comes (fun _ _ _ _ _ _ us hl => match us, hl with | [_, _, _], _ => rfl) (fun vs H Q E h => ?_) (fun f cdv A outer s H vs Q E hr h => ?_)
  · obtain ⟨a, rows, i, j, b, c, rfl, _⟩ := h; rfl
  obtain ⟨a, rows, i, j, b, c, rfl, hw, hle, hp, hq, hbc, hE⟩ := h
  obtain ⟨dx, t, ha, ts, ht, hT⟩ := hw.ex
  refine ⟨_, (pss_cons (ps_expr (pe_calMX (pv 0) T_Web XC_Web_check_place hr (takes_of rfl rfl rfl rfl) (fun _ _ _ _ h => h) (pa_cons (pv 1) pa_nil))) (pss_cons (ps_expr (pe_calMX (pv 0) T_Web XC_Web_check_place hr (takes_of rfl rfl rfl rfl) (fun _ _ _ _ h => h) (pa_cons (pv 2) pa_nil))) (pss_one (ps_ret (pe_cmpR (k_in K) (pv 2) (pe_cal C_reached hr rfl (pa_cons (pe_fldK K (pv 0) rfl) (pa_cons (pv 1) pa_nil))) (by rfl)))))), ?_⟩
  walk_at "go"
  refine w_methXE ha (look1n (by decide +kernel)) ?_
  walk_at "go"
  refine ⟨a, rows, i, b, rfl, hw, hp, fun hb => ?_, fun _ => ⟨hle, hE⟩⟩
  walk_at "go"
  refine w_methXE ha (look1n (by decide +kernel)) ?_
  walk_at "go"
  refine ⟨a, rows, j, c, rfl, hw, hq, fun hc => ?_, fun _ => ⟨hle, hE⟩⟩
  rw [hb, hc] at hbc
  cases hbc
def spInitX (CB : Addr) : Sp := fun vs H Q E => ∃ (B : Hp) (M : List (Addr × HO)) (x : Addr) (v : V), vs = [.ref x, v] ∧ Hs B M H ∧ WbD B v false ∧ ∀ H', Hs B M H' → E (.ref CB) none H'
theorem ok_initX (T : Names mg) (TW_ : WebT K mg CW) (R_BadWeb : ErrT K mg "BadWeb" CB) (G : GloC K mg CW "Web" "Web.__init__" s_Web_init) (C_is_web : Cal P w K mg base "is_web" 3 ["thing"] spIsWebD) : CalCX P w K mg base CW "Web" 4 ["self", "rows"] (spInitX CB) := by
  refine G.calX (k := 3) sc_Web_init (fun _ _ _ _ _ _ us hl => match us, hl with | [_, _], _ => rfl) (fun vs H Q E h => ?_) (fun f cdv A outer s H vs Q E hr h => ?_)
  · obtain ⟨B, M, x, v, rfl, _⟩ := h; rfl
  obtain ⟨B, M, x, v, rfl, S, hd, hE⟩ := h
  refine ⟨_, (pss_cons (ps_if (pt_not (pt_val (pe_cal C_is_web hr rfl (pa_cons (pv 1) pa_nil)))) (pss_one (ps_raiseE R_BadWeb rfl (takes_of rfl rfl rfl rfl) pe_str rfl)) pss_nil) (pss_one (ps_fldK K (pv 0) (pe_callTy (k_tupF K) rfl T.n_tuple (by decide +kernel) (pa_cons (pe_lc (own := [("row", 2)]) rfl sc_Web_init.nd (pi_listK K (pv 1)) (blkOk_by (own := [("row", 2)]) (N := ["self", "rows", "row"]) (sc := defScope s_Web_init) (by decide +kernel)) (fun _ _ _ _ _ => (pg_name (i := 2) sc_Web_init.nd rfl (Or.inl rfl))) (fun _ _ _ _ _ => pts_nil) (fun _ _ _ _ _ => (pe_callTy (k_tupF K) rfl T.n_tuple (by decide +kernel) (pa_cons (pv 2) pa_nil)))) pa_nil)) rfl))), ?_⟩
  walk_at "go"
  refine ⟨B, _, v, false, rfl, S, hd, fun H1 S1 => ?_⟩
  walk_at "go"
  refine iteT ?_
  exact hE _ S1
theorem ok_init (T : Names mg) (TW_ : WebT K mg CW) (G : GloC K mg CW "Web" "Web.__init__" s_Web_init) (C_is_web : Cal P w K mg base "is_web" 3 ["thing"] spIsWebD) : CalC P w K mg base CW "Web" 4 ["self", "rows"] (spInit CW) := by
  refine G.cal (k := 3) sc_Web_init (fun _ _ _ _ _ _ us hl => match us, hl with | [_, _], _ => rfl) (fun vs H Q E h => ?_) (fun f cdv A outer s H vs Q E hr h => ?_)
  · obtain ⟨B, M, x, dx, p, rows, rfl, _⟩ := h; rfl
  obtain ⟨B, M, x, dx, p, rows, rfl, S, ⟨as, hp, hR⟩, hv, hQ⟩ := h
  have hle := hv.le
  have hal := hR.length
  refine ⟨_, (pss_cons (ps_if (pt_not (pt_val (pe_cal C_is_web hr rfl (pa_cons (pv 1) pa_nil)))) (pss_one ps_never) pss_nil) (pss_one (ps_fldK K (pv 0) (pe_callTy (k_tupF K) rfl T.n_tuple (by decide +kernel) (pa_cons (pe_lc (own := [("row", 2)]) rfl sc_Web_init.nd (pi_listK K (pv 1)) (blkOk_by (own := [("row", 2)]) (N := ["self", "rows", "row"]) (sc := defScope s_Web_init) (by decide +kernel)) (fun _ _ _ _ _ => (pg_name (i := 2) sc_Web_init.nd rfl (Or.inl rfl))) (fun _ _ _ _ _ => pts_nil) (fun _ _ _ _ _ => (pe_callTy (k_tupF K) rfl T.n_tuple (by decide +kernel) (pa_cons (pv 2) pa_nil)))) pa_nil)) rfl))), ?_⟩
  walk_at "go"
  refine ⟨B, _, .ref p, true, rfl, S, wbD_good ⟨as, hp, hR⟩ hv, fun H1 S1 => ?_⟩
  walk_at "go"
  refine iteF ?_
  walk_at "go"
  refine w_iLE (sqL_of (S1.ex _ _ hp)) ?_
  refine lc_L S1 hp (fun i B' acc => ∃ ts : List Addr, acc = ts.map V.ref ∧ TR B' ts (rows.take i)) ⟨[], rfl, .nil⟩ ?_ ?_
  · rintro i y D B' acc H' hi hli e S' ⟨ts, rfl, hT⟩
    obtain ⟨b, hb, rfl⟩ : ∃ b, as[i]? = some b ∧ V.ref b = y := by simpa using hi
    have hil : i < as.length := (List.getElem?_eq_some_iff.mp hb).1
    obtain ⟨r, hr1, hr2⟩ : ∃ r, rows[i]? = some r ∧ LI B b r := by
      have hir : i < rows.length := by omega
      obtain ⟨b', h1, h2⟩ := hR.get (i := i) (List.getElem?_eq_getElem hir)
      rw [hb] at h1; cases h1
      exact ⟨_, List.getElem?_eq_getElem hir, h2⟩
    walk_at "go"
    refine ⟨rfl, ?_⟩
    walk_at "go"
    refine iteT ?_
    walk_at "go"
    refine w_tupF S' (sqL_of (S'.ex _ _ (e _ _ hr2))) fun q o H2 hc hd S2 => ?_
    obtain ⟨B2, e2, hq, S3⟩ := S2.shut 0
    refine lcp S3 (e.trans e2) hli (by omega) ⟨ts ++ [q], by simp, ?_⟩
    rw [List.take_add_one, hr1]
    exact (hT.mono e2).snoc ⟨o, hc, hd, hq⟩
  · rintro D B' acc H' e S' hli ⟨ts, rfl, hT⟩
    have e1 : rows.take (as.map V.ref).length = rows := List.take_of_length_le (by simp; omega)
    rw [e1] at hT
    walk_at "go"
    refine w_tupF S' (sqL_of (S'.get 0)) fun q o H2 hc hd S2 => ?_
    obtain ⟨B2, e2, hq, S3⟩ := (S2.drop 1).shut 0
    walk_at "go"
    refine w_sfldE S3 0 rfl TW_.cl TW_.nw (by simp) fun H3 S4 => ?_
    obtain ⟨B3, e3, hx, S5⟩ := S4.shut 0
    refine hQ B3 H3 ((e.trans e2).trans e3) (S5.drop 0) ⟨dx, q, hx, ts, ?_, (hT.mono e2).mono e3⟩
    exact ⟨o, hc, hd, e3 _ _ hq⟩
end
end Rw

namespace Rw
open PySem PySem.Spec PyProof.Rows L2
local macro_rules | `(tactic| walk_at "go1") => `(tactic| first
  | (with_reducible refine w_seq ?_)
  | (with_reducible refine w_asg ?_)
  | (with_reducible refine w_name ?_)
  | (with_reducible refine w_drop ?_)
  | (with_reducible refine w_ret ?_)
  | (with_reducible refine w_next ?_)
  | (with_reducible refine w_op ?_)
  | (with_reducible refine w_un ?_)
  | (with_reducible refine w_c ?_)
  | (with_reducible refine w_var (by with_unfolding_all rfl) ?_)
  | (with_reducible refine w_rI0 ?_)
  | (with_reducible refine w_rU ?_)
  | ((with_reducible refine w_mod ?_ ?_); (show (0 : Int) < _); omega)
  | ((with_reducible refine w_div ?_ ?_); exact And.intro (by omega) (by omega))
  | ((with_reducible refine w_mul ?_ ?_); (first | exact Or.inl (And.intro (by omega) (by omega)) | exact Or.inr (And.intro (by omega) (by omega))))
  | (with_reducible refine w_ifS ?_)
  | (with_reducible refine w_if ?_)
  | (with_reducible refine w_test ?_)
  | (with_reducible refine w_B ?_)
  | (with_reducible refine w_bl ?_)
  | (with_reducible refine w_not ?_)
  | (with_reducible refine w_and ?_)
  | (with_reducible refine w_or ?_)
  | (with_reducible refine w_cons ?_)
  | (with_reducible refine w_nil ?_)
  | (with_reducible refine w_call ?_)
  | (with_reducible refine w_cb ?_)
  | (with_reducible refine w_bm0 ?_)
  | (with_reducible refine w_bm ?_)
  | (with_reducible refine w_tlst ?_)
  | (with_reducible refine w_ttup ?_)
  | (with_reducible refine w_sub ?_)
  | (with_reducible refine w_for ?_)
  | (with_reducible refine w_rng1 ?_)
  | ((with_reducible refine w_rngE ?_ ?_ ?_); omega; omega)
  | (with_reducible refine w_iL ?_)
  | (with_reducible refine w_iT ?_)
  | (with_reducible refine w_iE ?_)
  | (with_reducible refine w_iZ ?_)
  | (with_reducible refine w_lc ?_)
  | (with_reducible refine w_yes ?_)
  | (with_reducible refine w_gcons ?_)
  | (with_reducible refine w_gnil ?_)
  | (with_reducible refine w_max2 ?_)
  | (with_reducible refine w_sl ?_)
  | (with_reducible refine w_part ?_)
  | (with_reducible refine w_partI ?_)
  | (with_reducible refine w_nopart ?_)
  | (with_reducible refine w_isT ?_)
  | (with_reducible refine w_notT ?_)
  | (with_reducible refine w_isB ?_)
  | (with_reducible refine w_notB ?_)
  | (with_reducible refine w_isN ?_)
  | (with_reducible refine w_notN ?_)
  | (with_reducible refine w_fld ?_)
  | (with_reducible refine w_ftm ?_)
  | (with_reducible refine w_lrg ?_)
  | (with_reducible refine w_rg1 ?_)
  | (with_reducible refine w_rg1E ?_)
  | (with_reducible refine w_tru ?_)
  | (with_reducible refine w_truB ?_)
  | (with_reducible refine w_truI ?_)
  | (with_reducible refine w_notT' ?_)
  | (with_reducible refine w_andT ?_)
  | (with_reducible refine w_orT ?_)
  | (with_reducible refine w_andV ?_)
  | (with_reducible refine w_orV ?_)
  | (with_reducible refine w_andE ?_)
  | (with_reducible refine w_orE ?_)
  | (with_reducible refine w_notV ?_)
  | (with_reducible refine w_notE ?_)
  | (with_reducible refine w_chain ?_)
  | (with_reducible refine w_chainI ?_)
  | (with_reducible refine w_meth ?_)
  | (with_reducible refine w_make ?_)
  | (with_reducible refine w_sfld ?_))
local macro_rules | `(tactic| walk_at "go") => `(tactic| repeat walk_at "go1")

-- _ways_in: 0 ways, 1 place, 2 row
abbrev s_ways_in : Stmt := top 24
theorem sc_ways_in : FnScope ["ways", "place", "row"] ["ways", "place"] (defScope s_ways_in) := ⟨rfl, rfl, rfl, by decide +kernel, rfl, by decide +kernel, by decide +kernel⟩
-- rests: 0 self, 1 place
abbrev s_Web_rests : Stmt := inClass (top 25) 3
theorem sc_Web_rests : FnScope ["self", "place"] ["self"] (defScope s_Web_rests) := ⟨rfl, rfl, rfl, by decide +kernel, rfl, by decide +kernel, by decide +kernel⟩
-- is_even: 0 self
abbrev s_Web_is_even : Stmt := inClass (top 25) 6
theorem sc_Web_is_even : FnScope ["self"] ["self"] (defScope s_Web_is_even) := ⟨rfl, rfl, rfl, by decide +kernel, rfl, by decide +kernel, by decide +kernel⟩
-- _is_balanced: 0 self, 1 place
abbrev s_Web_is_balanced : Stmt := inClass (top 25) 8
theorem sc_Web_is_balanced : FnScope ["self", "place"] ["self"] (defScope s_Web_is_balanced) := ⟨rfl, rfl, rfl, by decide +kernel, rfl, by decide +kernel, by decide +kernel⟩
-- _is_joined: 0 self, 1 place
abbrev s_Web_is_joined : Stmt := inClass (top 25) 9
theorem sc_Web_is_joined : FnScope ["self", "place"] ["self"] (defScope s_Web_is_joined) := ⟨rfl, rfl, rfl, by decide +kernel, rfl, by decide +kernel, by decide +kernel⟩
def spIsWeb : Sp := fun vs H Q _ => ∃ (B : Hp) (M : List (Addr × HO)) (a : Addr) (rows : List (List Int)), vs = [.ref a] ∧ Hs B M H ∧ LL B a rows ∧ Valid rows ∧ ∀ H', Hs B M H' → Q (.bl true) H'
section
variable {P : Program} {w : World} {K : PySem.W.Frag} {mg : Str → Option Value} {base : Heap} {CW : Addr}
theorem good_is_web {k : Nat} (C : Cal P w K mg base "is_web" k ["thing"] spIsWebD) : Cal P w K mg base "is_web" k ["thing"] spIsWeb := by
  obtain ⟨f, fd, h1, h2, h3, h4, h5⟩ := C.ex
  refine ⟨f, fd, h1, h2, h3, h4.imp fun vs H Q E h => ?_, h5⟩
  obtain ⟨B, M, a, rows, rfl, S, hl, hv, hQ⟩ := h
  exact ⟨B, M, .ref a, true, rfl, S, wbD_good hl hv, hQ⟩
theorem ok_ways_in (T : Names mg) (G : Glo K mg "_ways_in" s_ways_in) : Cal P w K mg base "_ways_in" 1 ["ways", "place"] spWaysIn := by
  refine G.cal (k := 0) sc_ways_in (fun _ _ _ _ _ _ us hl => match us, hl with | [_, _], _ => rfl) (fun vs H Q E h => ?_) (fun f cdv A outer s H vs Q E hr h => ?_)
  · obtain ⟨B, M, t, rows, a, rfl, _⟩ := h; rfl
  obtain ⟨B, M, t, rows, a, rfl, S, ⟨ts, ht, hT⟩, hv, hQ⟩ := h
  have hle := hv.le
  have htl := hT.length
  refine ⟨_, (pss_one (ps_ret (pe_callB (k_sum K rfl) rfl T.n_sum (by decide +kernel) (pa_cons (pe_lc (own := [("row", 2)]) rfl sc_ways_in.nd (pi_tupK K (pv 0)) (blkOk_by (own := [("row", 2)]) (N := ["ways", "place", "row"]) (sc := defScope s_ways_in) (by decide +kernel)) (fun _ _ _ _ _ => (pg_name (i := 2) sc_ways_in.nd rfl (Or.inl rfl))) (fun _ _ _ _ _ => pts_nil) (fun _ _ _ _ _ => (pe_ftm PySem.F.plainAttrs_tuple PySem.F.slot_tuple_count PySem.F.type_tuple_count (k_tcount K) (pv 2) (pa_cons (pv 1) pa_nil)))) pa_nil)))), ?_⟩
  walk_at "go"
  refine w_iTE ((ht.mono S.ex).sq) ?_
  refine lc_F S ht (fun i B' acc => B' = B ∧ acc = ((rows.take i).map fun r => ((r.count a : Nat) : Int)).map V.int) ⟨rfl, rfl⟩ ?_ ?_
  · rintro i x D B' acc H' hi hli e S' ⟨rfl, rfl⟩
    obtain ⟨b, hb, rfl⟩ : ∃ b, ts[i]? = some b ∧ V.ref b = x := by simpa using hi
    have hil : i < ts.length := (List.getElem?_eq_some_iff.mp hb).1
    obtain ⟨r, hr1, hr2⟩ : ∃ r, rows[i]? = some r ∧ FT B' b (r.map V.int) := by
      have hir : i < rows.length := by omega
      obtain ⟨b', h1, h2⟩ := hT.get (i := i) (List.getElem?_eq_getElem hir)
      rw [hb] at h1; cases h1
      exact ⟨_, List.getElem?_eq_getElem hir, h2⟩
    walk_at "go"
    refine ⟨rfl, ?_⟩
    walk_at "go"
    refine iteT ?_
    walk_at "go"
    refine w_ftmE (hr2.mono S'.ex) ?_
    walk_at "go"
    refine w_tcount (hr2.mono S'.ex).sq ?_
    refine lcp S' (Same.refl _) hli (by omega) ⟨rfl, ?_⟩
    rw [List.take_add_one, hr1]
    simp
  · rintro D B' acc H' e S' hli ⟨rfl, rfl⟩
    walk_at "go"
    refine w_sum (sqL_of (S'.get 0)) ?_
    have e1 : rows.take (ts.map V.ref).length = rows := List.take_of_length_le (by simp; omega)
    rw [e1]
    exact hQ _ (S'.drop 0)
theorem ok_rests (T : Names mg) (TW_ : WebT K mg CW) (T_Web : Cls K CW) (G : GloM K CW "rests" "Web.rests" s_Web_rests) (C_Web_many : CalM P w K mg base CW "many" 1 ["self"] (spMany CW)) : CalM P w K mg base CW "rests" 2 ["self"] (spRests CW) := by
  refine G.cal (k := 1) sc_Web_rests (fun _ _ _ _ _ _ us hl => match us, hl with | [_], _ => rfl) (fun vs H Q E h => ?_) (fun f cdv A outer s H vs Q E hr h => ?_)
  · obtain ⟨B, M, a, rows, rfl, _⟩ := h; rfl
  obtain ⟨B, M, a, rows, rfl, S, hw, hv, hQ⟩ := h
  obtain ⟨dx, t, ha, ts, ht, hT⟩ := hw.ex
  have hle := hv.le
  have htl := hT.length
  refine ⟨_, (pss_one (ps_ret (pe_lc (own := [("place", 1)]) rfl sc_Web_rests.nd (pi_range1 rfl T.n_range (pa_cons (pe_calM0 (pv 0) T_Web C_Web_many hr) pa_nil)) (blkOk_by (own := [("place", 1)]) (N := ["self", "place"]) (sc := defScope s_Web_rests) (by decide +kernel)) (fun _ _ _ _ _ => (pg_name (i := 1) sc_Web_rests.nd rfl (Or.inl rfl))) (fun _ _ _ _ _ => pts_one (pt_not (pt_truthK K (pe_ix (k_ixT K) (pe_fldK K (pv 0) rfl) (pv 1) (fun _ _ => rfl)) (by intro _; rfl)))) (fun _ _ _ _ _ => (pv 1))))), ?_⟩
  walk_at "go"
  refine w_methE (S.ex _ _ ha) (look1n (by decide +kernel)) ?_
  walk_at "go"
  refine ⟨a, rows, rfl, hw.mono S.ex, ?_⟩
  walk_at "go"
  refine lc_R S (fun i B' acc => B' = B ∧ acc = (restsTo rows i).map V.int) ⟨rfl, rfl⟩ ?_ ?_
  · rintro i D B' acc H' hi hli e S' ⟨rfl, rfl⟩
    have hir : i < rows.length := by omega
    obtain ⟨tb, htb, hr2⟩ := hT.get (i := i) (List.getElem?_eq_getElem hir)
    walk_at "go"
    refine ⟨rfl, ?_⟩
    walk_at "go"
    refine w_fldE (S'.ex _ _ ha) TW_.cl TW_.nw look1 ?_
    walk_at "go"
    refine w_ixT (v := .ref tb) (ht.mono S'.ex).sq (atI_nat (by rw [List.getElem?_map, htb]; rfl)) ?_
    refine w_truT (hr2.mono S'.ex).sq ?_
    have er : restsTo rows (i + 1) = restsTo rows i ++ if rows[i] = [] then [(i : Int)] else [] := by
      unfold restsTo
      rw [List.range_succ, List.filter_append, List.map_append]
      congr 1
      rw [List.filter_cons, List.getElem?_eq_getElem hir]
      by_cases h : rows[i] = []
      · simp [h]
      · simp [h]
    by_cases h : rows[i] = []
    · rw [h]
      refine iteT ?_
      walk_at "go"
      refine lcp S' (Same.refl _) hli (by omega) ⟨rfl, ?_⟩
      rw [er, if_pos h, List.map_append]; rfl
    · rw [show (!(List.map V.int rows[i]).isEmpty) = true by cases hh : rows[i] with | nil => exact absurd hh h | cons x xs => rfl]
      refine iteF ?_
      refine lcn S' (Same.refl _) hli ⟨rfl, ?_⟩
      rw [er, if_neg h, List.append_nil]
  · rintro D B' acc H' e S' hli ⟨rfl, rfl⟩
    exact hQ D H' S'
end
/-- a list of answers by places, all of them -/
theorem allR (φ : Nat → Bool) (n : Nat) : ((List.range n).map φ).all id = true ↔ ∀ i, i < n → φ i = true := by
  rw [List.all_eq_true]
  constructor
  · intro h i hi
    exact h (φ i) (List.mem_map.mpr ⟨i, List.mem_range.mpr hi, rfl⟩)
  · intro h b hb
    obtain ⟨i, hi, rfl⟩ := List.mem_map.mp hb
    exact h i (List.mem_range.mp hi)
def balB (rows : List (List Int)) (i : Nat) : Bool := decide (waysIn rows (i : Int) = ((rows.getD i []).length : Int))
theorem balB_iff (rows : List (List Int)) : ((List.range rows.length).map (balB rows)).all id = true ↔ Balanced rows := by
  rw [allR]
  constructor
  · intro h i r hr
    have hi := (List.getElem?_eq_some_iff.mp hr).1
    have := of_decide_eq_true (h i hi)
    rw [List.getD_eq_getElem?_getD, hr] at this
    exact this
  · intro h i hi
    refine decide_eq_true ?_
    have := h i _ (List.getElem?_eq_getElem hi)
    rw [List.getD_eq_getElem?_getD, List.getElem?_eq_getElem hi]
    exact this
section
variable {P : Program} {w : World} {K : PySem.W.Frag} {mg : Str → Option Value} {base : Heap} {CW : Addr}
theorem ok_balanced (T : Names mg) (TW_ : WebT K mg CW) (T_Web : Cls K CW) (G : GloM K CW "_is_balanced" "Web._is_balanced" s_Web_is_balanced) (C_Web_many : CalM P w K mg base CW "many" 1 ["self"] (spMany CW)) (C_ways_in : Cal P w K mg base "_ways_in" 1 ["ways", "place"] spWaysIn) : CalM P w K mg base CW "_is_balanced" 2 ["self"] (spBool CW Balanced) := by
  refine G.cal (k := 1) sc_Web_is_balanced (fun _ _ _ _ _ _ us hl => match us, hl with | [_], _ => rfl) (fun vs H Q E h => ?_) (fun f cdv A outer s H vs Q E hr h => ?_)
  · obtain ⟨B, M, a, rows, rfl, _⟩ := h; rfl
  obtain ⟨B, M, a, rows, rfl, S, hw, hv, hQ⟩ := h
  obtain ⟨dx, t, ha, ts, ht, hT⟩ := hw.ex
  have hle := hv.le
  have htl := hT.length
  refine ⟨_, (pss_one (ps_ret (pe_callB (k_all K rfl) rfl T.n_all (by decide +kernel) (pa_cons (pe_lc (own := [("place", 1)]) rfl sc_Web_is_balanced.nd (pi_range1 rfl T.n_range (pa_cons (pe_calM0 (pv 0) T_Web C_Web_many hr) pa_nil)) (blkOk_by (own := [("place", 1)]) (N := ["self", "place"]) (sc := defScope s_Web_is_balanced) (by decide +kernel)) (fun _ _ _ _ _ => (pg_name (i := 1) sc_Web_is_balanced.nd rfl (Or.inl rfl))) (fun _ _ _ _ _ => pts_nil) (fun _ _ _ _ _ => (pe_cmpR op_eq (pe_cal C_ways_in hr rfl (pa_cons (pe_fldK K (pv 0) rfl) (pa_cons (pv 1) pa_nil))) (pe_callB (k_len K) rfl T.n_len boot_len (pa_cons (pe_ix (k_ixT K) (pe_fldK K (pv 0) rfl) (pv 1) (fun _ _ => rfl)) pa_nil)) (nomark _)))) pa_nil)))), ?_⟩
  walk_at "go"
  refine w_methE (S.ex _ _ ha) (look1n (by decide +kernel)) ?_
  walk_at "go"
  refine ⟨a, rows, rfl, hw.mono S.ex, ?_⟩
  walk_at "go"
  refine lc_R S (fun i B' acc => B' = B ∧ acc = ((List.range i).map (balB rows)).map V.bl) ⟨rfl, rfl⟩ ?_ ?_
  · rintro i D B' acc H' hi hli e S' ⟨rfl, rfl⟩
    have hir : i < rows.length := by omega
    obtain ⟨tb, htb, hr2⟩ := hT.get (i := i) (List.getElem?_eq_getElem hir)
    walk_at "go"
    refine ⟨rfl, ?_⟩
    walk_at "go"
    refine iteT ?_
    walk_at "go"
    refine w_fldE (S'.ex _ _ ha) TW_.cl TW_.nw look1 ?_
    walk_at "go"
    refine ⟨B', _, t, rows, (i : Int), rfl, S', ⟨ts, ht, hT⟩, hv, fun H2 S2 => ?_⟩
    walk_at "go"
    refine w_fldE (S2.ex _ _ ha) TW_.cl TW_.nw look1 ?_
    walk_at "go"
    refine w_ixT (v := .ref tb) (ht.mono S2.ex).sq (atI_nat (by rw [List.getElem?_map, htb]; rfl)) ?_
    walk_at "go"
    refine w_lenT (hr2.mono S2.ex).sq ?_
    refine w_eqS rfl ?_
    refine lcp S2 (Same.refl _) hli (by omega) ⟨rfl, ?_⟩
    rw [snoc_map, List.map_append]
    congr 1
    show [V.bl _] = [V.bl _]
    congr 2
    unfold balB
    rw [List.getD_eq_getElem?_getD, List.getElem?_eq_getElem hir]
    simp
  · rintro D B' acc H' e S' hli ⟨rfl, rfl⟩
    walk_at "go"
    refine w_all (sqL_of (S'.get 0)) ?_
    exact hQ _ H' (S'.drop 0) (balB_iff rows)
theorem ok_joined (T : Names mg) (TW_ : WebT K mg CW) (T_Web : Cls K CW) (G : GloM K CW "_is_joined" "Web._is_joined" s_Web_is_joined) (C_Web_many : CalM P w K mg base CW "many" 1 ["self"] (spMany CW)) (C_reached : Cal P w K mg base "_reached" 1 ["ways", "start"] spReached) : CalM P w K mg base CW "_is_joined" 2 ["self"] (spBool CW Joined) := by
  refine G.cal (k := 1) sc_Web_is_joined (fun _ _ _ _ _ _ us hl => match us, hl with | [_], _ => rfl) (fun vs H Q E h => ?_) (fun f cdv A outer s H vs Q E hr h => ?_)
  · obtain ⟨B, M, a, rows, rfl, _⟩ := h; rfl
  obtain ⟨B, M, a, rows, rfl, S, hw, hv, hQ⟩ := h
  obtain ⟨dx, t, ha, hT⟩ := hw.ex
  have hle := hv.le
  refine ⟨_, (pss_one (ps_ret (pe_callB (k_all K rfl) rfl T.n_all (by decide +kernel) (pa_cons (pe_lc (own := [("place", 1)]) rfl sc_Web_is_joined.nd (pi_range1 rfl T.n_range (pa_cons (pe_calM0 (pv 0) T_Web C_Web_many hr) pa_nil)) (blkOk_by (own := [("place", 1)]) (N := ["self", "place"]) (sc := defScope s_Web_is_joined) (by decide +kernel)) (fun _ _ _ _ _ => (pg_name (i := 1) sc_Web_is_joined.nd rfl (Or.inl rfl))) (fun _ _ _ _ _ => pts_nil) (fun _ _ _ _ _ => (pe_cmpR op_eq (pe_callB (k_len K) rfl T.n_len boot_len (pa_cons (pe_cal C_reached hr rfl (pa_cons (pe_fldK K (pv 0) rfl) (pa_cons (pv 1) pa_nil))) pa_nil)) (pe_calM0 (pv 0) T_Web C_Web_many hr) (nomark _)))) pa_nil)))), ?_⟩
  walk_at "go"
  refine w_methE (S.ex _ _ ha) (look1n (by decide +kernel)) ?_
  walk_at "go"
  refine ⟨a, rows, rfl, hw.mono S.ex, ?_⟩
  walk_at "go"
  refine lc_R S (fun i B' acc => B' = B ∧ ∃ bs : List Bool, acc = bs.map V.bl ∧ (bs.all id = true ↔ ∀ j : Nat, j < i → ∀ x : Int, 0 ≤ x → x < (rows.length : Int) → Rch rows (j : Int) x)) ⟨rfl, [], rfl, by simp⟩ ?_ ?_
  · rintro i D B' acc H' hi hli e S' ⟨rfl, bs, rfl, hbs⟩
    have hir : i < rows.length := by omega
    walk_at "go"
    refine ⟨rfl, ?_⟩
    walk_at "go"
    refine iteT ?_
    walk_at "go"
    refine w_fldE (S'.ex _ _ ha) TW_.cl TW_.nw look1 ?_
    walk_at "go"
    refine ⟨B', _, t, rows, (i : Int), rfl, S', hT, hv, by omega, by omega, fun p H2 R S2 nd hR => ?_⟩
    walk_at "go"
    refine w_len (sqL_of (S2.get 0)) ?_
    walk_at "go"
    refine w_methE (S2.ex _ _ ha) (look1n (by decide +kernel)) ?_
    walk_at "go"
    refine ⟨a, rows, rfl, hw.mono S2.ex, ?_⟩
    refine w_eqS rfl ?_
    have hrange : ∀ x ∈ R, 0 ≤ x ∧ x < ((rows.length : Nat) : Int) := fun x hx => ((hR x).mp hx).range hv ⟨by omega, by omega⟩
    refine lcp (S2.drop 0) (Same.refl _) hli (by omega) ⟨rfl, bs ++ [decide (R.length = rows.length)], ?_, ?_⟩
    · rw [List.map_append]
      congr 1
      show [V.bl _] = [V.bl _]
      congr 2
      simp
      omega
    · rw [List.all_append, Bool.and_eq_true, hbs]
      simp only [List.all_cons, List.all_nil, Bool.and_true, id, decide_eq_true_eq]
      rw [pigeon_all nd hrange]
      constructor
      · rintro ⟨h1, h2⟩ j hj x x0 x1
        by_cases hji : j < i
        · exact h1 j hji x x0 x1
        · have : j = i := by omega
          subst this
          exact (hR x).mp (h2 x x0 x1)
      · intro h
        exact ⟨fun j hj => h j (by omega), fun x x0 x1 => (hR x).mpr (h i (by omega) x x0 x1)⟩
  · rintro D B' acc H' e S' hli ⟨rfl, bs, rfl, hbs⟩
    walk_at "go"
    refine w_all (sqL_of (S'.get 0)) ?_
    refine hQ _ H' (S'.drop 0) ?_
    rw [hbs]
    constructor
    · intro h i x i0 i1 x0 x1
      have := h i.toNat (by omega) x x0 x1
      rw [show ((i.toNat : Nat) : Int) = i by omega] at this
      exact this
    · intro h j hj x x0 x1
      exact h (j : Int) x (by omega) (by omega) x0 x1
theorem rests_nil (rows : List (List Int)) : restsTo rows rows.length = [] ↔ ∀ r ∈ rows, r ≠ [] := by
  unfold restsTo
  rw [List.map_eq_nil_iff, List.filter_eq_nil_iff]
  constructor
  · intro h r hr e
    obtain ⟨i, hi, e2⟩ := List.mem_iff_getElem.mp hr
    refine h i (List.mem_range.mpr hi) ?_
    rw [List.getElem?_eq_getElem hi, e2, e]
    rfl
  · intro h i hi
    have hi := List.mem_range.mp hi
    rw [List.getElem?_eq_getElem hi]
    intro e
    have e2 : some rows[i] = some [] := beq_iff_eq.mp e
    exact h rows[i] (List.getElem_mem hi) (Option.some.inj e2)
theorem ok_is_even (T : Names mg) (T_Web : Cls K CW) (G : GloM K CW "is_even" "Web.is_even" s_Web_is_even) (C_Web_rests : CalM P w K mg base CW "rests" 2 ["self"] (spRests CW)) (C_Web_is_balanced : CalM P w K mg base CW "_is_balanced" 2 ["self"] (spBool CW Balanced)) (C_Web_is_joined : CalM P w K mg base CW "_is_joined" 2 ["self"] (spBool CW Joined)) : CalM P w K mg base CW "is_even" 3 ["self"] (spBool CW EvenW) := by
  refine G.cal (k := 2) sc_Web_is_even (fun _ _ _ _ _ _ us hl => match us, hl with | [_], _ => rfl) (fun vs H Q E h => ?_) (fun f cdv A outer s H vs Q E hr h => ?_)
  · obtain ⟨B, M, a, rows, rfl, _⟩ := h; rfl
  obtain ⟨B, M, a, rows, rfl, S, hw, hv, hQ⟩ := h
  obtain ⟨dx, t, ha, hT⟩ := hw.ex
  refine ⟨_, (pss_one (ps_ret (pe_and (pe_notTK K (pe_calM0 (pv 0) T_Web C_Web_rests hr)) (pe_and (pe_calM0 (pv 0) T_Web C_Web_is_balanced hr) (pe_one (pe_calM0 (pv 0) T_Web C_Web_is_joined hr)))))), ?_⟩
  walk_at "go"
  refine w_methE (S.ex _ _ ha) (look1n (by decide +kernel)) ?_
  walk_at "go"
  refine ⟨B, M, a, rows, rfl, S, hw, hv, fun p H2 S2 => ?_⟩
  refine w_truL (sqL_of (S2.get 0)) ?_
  have S3 := S2.drop 0
  by_cases hn : restsTo rows rows.length = []
  · rw [hn]
    have h1 := (rests_nil rows).mp hn
    walk_at "go"
    refine iteT ?_
    walk_at "go"
    refine w_methE (S2.ex _ _ ha) (look1n (by decide +kernel)) ?_
    walk_at "go"
    refine ⟨B, M, a, rows, rfl, S3, hw, hv, fun b H4 S4 hb => ?_⟩
    refine w_andE ?_
    cases b with
    | true =>
      refine iteT ?_
      walk_at "go"
      refine w_methE (S4.ex _ _ ha) (look1n (by decide +kernel)) ?_
      walk_at "go"
      refine ⟨B, M, a, rows, rfl, S4, hw, hv, fun c H5 S5 hc => ?_⟩
      exact hQ c H5 S5 ⟨fun q => ⟨h1, hb.mp rfl, hc.mp q⟩, fun q => hc.mpr q.join⟩
    | false =>
      refine iteF ?_
      exact hQ false H4 S4 ⟨fun q => Bool.noConfusion q, fun q => hb.mpr q.bal⟩
  · have e1 : (!!(List.map V.int (restsTo rows rows.length)).isEmpty) = false := by
      cases h : restsTo rows rows.length with
      | nil => exact absurd h hn
      | cons x xs => rfl
    rw [e1]
    walk_at "go"
    refine iteF ?_
    exact hQ false H2 S3 ⟨fun q => (by cases q), fun q => absurd ((rests_nil rows).mpr q.noRest) hn⟩
end
end Rw

namespace Rw
open PySem PySem.Spec PyProof.Rows L2
local macro_rules | `(tactic| walk_at "go1") => `(tactic| first
  | (with_reducible refine w_seq ?_)
  | (with_reducible refine w_asg ?_)
  | (with_reducible refine w_name ?_)
  | (with_reducible refine w_drop ?_)
  | (with_reducible refine w_ret ?_)
  | (with_reducible refine w_next ?_)
  | (with_reducible refine w_op ?_)
  | (with_reducible refine w_un ?_)
  | (with_reducible refine w_c ?_)
  | (with_reducible refine w_var (by with_unfolding_all rfl) ?_)
  | (with_reducible refine w_rI0 ?_)
  | (with_reducible refine w_rU ?_)
  | ((with_reducible refine w_mod ?_ ?_); (show (0 : Int) < _); omega)
  | ((with_reducible refine w_div ?_ ?_); exact And.intro (by omega) (by omega))
  | ((with_reducible refine w_mul ?_ ?_); (first | exact Or.inl (And.intro (by omega) (by omega)) | exact Or.inr (And.intro (by omega) (by omega))))
  | (with_reducible refine w_ifS ?_)
  | (with_reducible refine w_if ?_)
  | (with_reducible refine w_test ?_)
  | (with_reducible refine w_B ?_)
  | (with_reducible refine w_bl ?_)
  | (with_reducible refine w_not ?_)
  | (with_reducible refine w_and ?_)
  | (with_reducible refine w_or ?_)
  | (with_reducible refine w_cons ?_)
  | (with_reducible refine w_nil ?_)
  | (with_reducible refine w_call ?_)
  | (with_reducible refine w_cb ?_)
  | (with_reducible refine w_bm0 ?_)
  | (with_reducible refine w_bm ?_)
  | (with_reducible refine w_tlst ?_)
  | (with_reducible refine w_ttup ?_)
  | (with_reducible refine w_sub ?_)
  | (with_reducible refine w_for ?_)
  | (with_reducible refine w_rng1 ?_)
  | ((with_reducible refine w_rngE ?_ ?_ ?_); omega; omega)
  | (with_reducible refine w_iL ?_)
  | (with_reducible refine w_iT ?_)
  | (with_reducible refine w_iE ?_)
  | (with_reducible refine w_iZ ?_)
  | (with_reducible refine w_lc ?_)
  | (with_reducible refine w_yes ?_)
  | (with_reducible refine w_gcons ?_)
  | (with_reducible refine w_gnil ?_)
  | (with_reducible refine w_max2 ?_)
  | (with_reducible refine w_sl ?_)
  | (with_reducible refine w_part ?_)
  | (with_reducible refine w_partI ?_)
  | (with_reducible refine w_nopart ?_)
  | (with_reducible refine w_isT ?_)
  | (with_reducible refine w_notT ?_)
  | (with_reducible refine w_isB ?_)
  | (with_reducible refine w_notB ?_)
  | (with_reducible refine w_isN ?_)
  | (with_reducible refine w_notN ?_)
  | (with_reducible refine w_fld ?_)
  | (with_reducible refine w_ftm ?_)
  | (with_reducible refine w_lrg ?_)
  | (with_reducible refine w_rg1 ?_)
  | (with_reducible refine w_rg1E ?_)
  | (with_reducible refine w_tru ?_)
  | (with_reducible refine w_truB ?_)
  | (with_reducible refine w_truI ?_)
  | (with_reducible refine w_notT' ?_)
  | (with_reducible refine w_andT ?_)
  | (with_reducible refine w_orT ?_)
  | (with_reducible refine w_andV ?_)
  | (with_reducible refine w_orV ?_)
  | (with_reducible refine w_andE ?_)
  | (with_reducible refine w_orE ?_)
  | (with_reducible refine w_notV ?_)
  | (with_reducible refine w_notE ?_)
  | (with_reducible refine w_chain ?_)
  | (with_reducible refine w_chainI ?_)
  | (with_reducible refine w_meth ?_)
  | (with_reducible refine w_make ?_)
  | (with_reducible refine w_sfld ?_))
local macro_rules | `(tactic| walk_at "go") => `(tactic| repeat walk_at "go1")

local macro_rules | `(tactic| walk_at "go1") => `(tactic| first
  | (with_reducible refine w_callX ?_)
  | (with_reducible refine w_methX ?_)
  | (with_reducible refine w_makeX ?_)
  | (with_reducible refine w_augS ?_)
  | (with_reducible refine w_ipI ?_))
/-! ### numbers in a list -/
inductive AllZ (R : Int → V → Bool → Prop) : List Int → List V → List Bool → Prop where
  | nil : AllZ R [] [] []
  | cons {m : Int} {v : V} {b : Bool} {ms : List Int} {vs : List V} {bs : List Bool} (h : R m v b) (t : AllZ R ms vs bs) : AllZ R (m :: ms) (v :: vs) (b :: bs)
theorem AllZ.length {R : Int → V → Bool → Prop} {ms : List Int} {vs : List V} {bs : List Bool} (h : AllZ R ms vs bs) : vs.length = ms.length ∧ bs.length = ms.length := by
  induction h with
  | nil => exact ⟨rfl, rfl⟩
  | cons h _ ih => exact ⟨congrArg Nat.succ ih.1, congrArg Nat.succ ih.2⟩
theorem AllZ.imp {R S : Int → V → Bool → Prop} (f : ∀ m v b, R m v b → S m v b) {ms : List Int} {vs : List V} {bs : List Bool} (h : AllZ R ms vs bs) : AllZ S ms vs bs := by
  induction h with
  | nil => exact .nil
  | cons h _ ih => exact .cons (f _ _ _ h) ih
theorem AllZ.get {R : Int → V → Bool → Prop} {ms : List Int} {vs : List V} {bs : List Bool} (h : AllZ R ms vs bs) : ∀ {i : Nat} {m : Int} {v : V}, ms[i]? = some m → vs[i]? = some v → ∃ b, bs[i]? = some b ∧ R m v b := by
  induction h with
  | nil => intro i m v e; simp at e
  | cons h _ ih =>
    intro i m v e1 e2
    cases i with
    | zero => simp at e1 e2; subst e1; subst e2; exact ⟨_, rfl, h⟩
    | succ i => exact ih (by simpa using e1) (by simpa using e2)
/-- whether a thing is a list of numbers, for each of ms one from 0 to it -/
inductive NmsD (B : Hp) (M : List (Addr × HO)) (ms : List Int) : V → Bool → Prop where
  | lst {a : Addr} {xs : List V} {bs : List Bool} (h : Stay B M a (.lst xs)) (t : AllZ (fun m v b => NmD B 0 m v b) ms xs bs) : NmsD B M ms (.ref a) (bs.all id)
  | len {a : Addr} {xs : List V} (h : Stay B M a (.lst xs)) (hl : xs.length ≠ ms.length) : NmsD B M ms (.ref a) false
  | oth {v : V} {T : String} (t : TyH B v T) (h : T ≠ "list") : NmsD B M ms v false
theorem NmsD.up {B B' : Hp} {M : List (Addr × HO)} {ms : List Int} {v : V} {b : Bool} (e : Same B B') (h : NmsD B M ms v b) : NmsD B' M ms v b := by
  cases h with
  | lst h t => exact .lst (h.up e) (t.imp fun _ _ _ => NmD.mono e)
  | len h hl => exact .len (h.up e) hl
  | oth t h => exact .oth (t.mono e) h
theorem NmsD.cons {B : Hp} {M : List (Addr × HO)} {ms : List Int} {v : V} {b : Bool} {c : Addr × HO} (h : NmsD B M ms v b) : NmsD B (c :: M) ms v b := by
  cases h with
  | lst h t => exact .lst h.cons t
  | len h hl => exact .len h.cons hl
  | oth t h => exact .oth t h
theorem allZ_good {H : Hp} : ∀ {ms ns : List Int}, ns.length = ms.length → (∀ (i : Nat) (m x : Int), ms[i]? = some m → ns[i]? = some x → 0 ≤ x ∧ x ≤ m) → AllZ (fun m v b => NmD H 0 m v b) ms (ns.map V.int) (List.replicate ms.length true)
  | [], [], _, _ => .nil
  | [], _ :: _, h, _ => by simp at h
  | _ :: _, [], h, _ => by simp at h
  | m :: ms, n :: ns, h, hx => by
    have e : NmD H 0 m (.int n) true := by
      rw [← decide_eq_true (hx 0 m n rfl rfl)]
      exact .int n
    exact .cons e (allZ_good (by simpa using h) fun i m' x' h1 h2 => hx (i + 1) m' x' (by simpa using h1) (by simpa using h2))
theorem nmsD_good {H : Hp} {M : List (Addr × HO)} {a : Addr} {ms ns : List Int} (h : Stay H M a (.lst (ns.map V.int))) (hl : ns.length = ms.length) (hx : ∀ (i : Nat) (m x : Int), ms[i]? = some m → ns[i]? = some x → 0 ≤ x ∧ x ≤ m) : NmsD H M ms (.ref a) true := by
  have e := NmsD.lst h (allZ_good (H := H) hl hx)
  rw [all_true] at e
  exact e
def spNums : Sp := fun vs H Q _ => ∃ (B : Hp) (M : List (Addr × HO)) (v : V) (mo : Addr) (ms : List Int) (b : Bool), vs = [v, .ref mo] ∧ Hs B M H ∧ LI B mo ms ∧ ms.length ≤ 100 ∧ NmsD B M ms v b ∧ ∀ H', Hs B M H' → Q (.bl b) H'
-- are_numbers: 0 thing, 1 mosts, 2 item, 3 most
abbrev s_are_numbers : Stmt := top 11
theorem sc_are_numbers : FnScope ["thing", "mosts", "item", "most"] ["thing", "mosts"] (defScope s_are_numbers) := ⟨rfl, rfl, rfl, by decide +kernel, rfl, by decide +kernel, by decide +kernel⟩
section
variable {P : Program} {w : World} {K : PySem.W.Frag} {mg : Str → Option Value} {base : Heap}
theorem ok_nums (T : Names mg) (G : Glo K mg "are_numbers" s_are_numbers) (C_is_number : Cal P w K mg base "is_number" 1 ["thing", "least", "most"] spNum) : Cal P w K mg base "are_numbers" 2 ["thing", "mosts"] spNums := by
  refine G.cal (k := 1) sc_are_numbers (fun _ _ _ _ _ _ us hl => match us, hl with | [_, _], _ => rfl) (fun vs H Q E h => ?_) (fun f cdv A outer s H vs Q E hr h => ?_)
  · obtain ⟨B, M, v, mo, ms, b, rfl, _⟩ := h; rfl
  obtain ⟨B, M, v, mo, ms, b, rfl, S, hm, hml, hd, hQ⟩ := h
  refine ⟨_, (pss_cons (ps_if (PW.pt (pw_or (pt_cmpR op_notTyB (pe_callTy (k_type K) rfl T.n_type (by decide +kernel) (pa_cons (pv 0) pa_nil)) (pe_bltn (v := .ty "list") rfl T.n_list (by decide +kernel) rfl) (nomark _)) (pw_or1 (pt_cmpR op_ne (pe_callB (k_len K) rfl T.n_len boot_len (pa_cons (pv 0) pa_nil)) (pe_callB (k_len K) rfl T.n_len boot_len (pa_cons (pv 1) pa_nil)) (nomark _))))) (pss_one (ps_ret pe_bl)) pss_nil) (pss_one (ps_ret (pe_callB (k_all K rfl) rfl T.n_all (by decide +kernel) (pa_cons (pe_lc (own := [("item", 2), ("most", 3)]) rfl sc_are_numbers.nd (pi_zipK K rfl T.n_zip (pa_cons (pv 0) (pa_cons (pv 1) pa_nil))) (blkOk_by (own := [("item", 2), ("most", 3)]) (N := ["thing", "mosts", "item", "most"]) (sc := defScope s_are_numbers) (by decide +kernel)) (fun _ _ _ _ _ => (pg_tupK (n := 2) K rfl (pgs_cons (pg_name (i := 2) sc_are_numbers.nd rfl (Or.inl rfl)) (pgs_cons (pg_name (i := 3) sc_are_numbers.nd rfl (Or.inl rfl)) pgs_nil)))) (fun _ _ _ _ _ => pts_nil) (fun _ _ _ _ _ => (pe_cal C_is_number hr rfl (pa_cons (pv 2) (pa_cons pe_int (pa_cons (pv 3) pa_nil)))))) pa_nil))))), ?_⟩
  walk_at "go"
  cases hd with
  | @oth _ T t h =>
    refine w_typ (t.mono S.ex).toB ?_
    walk_at "go"
    rw [decide_eq_false h]
    refine iteT ?_
    exact hQ _ S
  | @len a xs hr0 hl =>
    refine w_typ (.lst (sqL_of (hr0.at S))) ?_
    walk_at "go"
    refine iteF ?_
    walk_at "go"
    refine w_len (sqL_of (hr0.at S)) ?_
    walk_at "go"
    refine w_len (sqL_of (S.ex _ _ hm)) ?_
    refine w_neS rfl ?_
    walk_at "go"
    rw [decide_eq_false (by intro q; exact hl (by have := V.int.inj q; simp at this; omega))]
    refine iteT ?_
    exact hQ _ S
  | @lst a xs bs hr0 ht =>
    have hlx := ht.length
    refine w_typ (.lst (sqL_of (hr0.at S))) ?_
    walk_at "go"
    refine iteF ?_
    walk_at "go"
    refine w_len (sqL_of (hr0.at S)) ?_
    walk_at "go"
    refine w_len (sqL_of (S.ex _ _ hm)) ?_
    refine w_neS rfl ?_
    walk_at "go"
    rw [decide_eq_true (by simp [hlx.1])]
    refine iteF ?_
    walk_at "go"
    refine w_iZE (sqL_of (hr0.at S)) (sqL_of (S.ex _ _ hm)) ?_
    refine lc_ZS S hr0 (Stay.ofB hm) (by simp [hlx.1]) (fun i B' acc => B' = B ∧ acc = (bs.take i).map V.bl) ⟨rfl, rfl⟩ ?_ ?_
    · rintro i x y D T' B' acc H' hi hj hli e S' ⟨rfl, rfl⟩
      obtain ⟨m, hm1, rfl⟩ : ∃ m, ms[i]? = some m ∧ V.int m = y := by simpa using hj
      obtain ⟨b, hb, hp⟩ := ht.get hm1 hi
      have hil : i < xs.length := (List.getElem?_eq_some_iff.mp hi).1
      refine w_gtup (sqT_of (S'.get 0)) rfl ?_
      walk_at "go"
      refine ⟨rfl, ?_⟩
      walk_at "go"
      refine iteT ?_
      walk_at "go"
      refine ⟨x, 0, m, b, rfl, hp.mono S'.ex, ?_⟩
      exact lcp (S'.drop 0) (Same.refl _) hli (by omega) ⟨rfl, (bs_snoc hb).symm⟩
    · rintro D B' acc H' e S' hli ⟨rfl, rfl⟩
      walk_at "go"
      refine w_all (sqL_of (S'.get 0)) ?_
      rw [List.take_of_length_le (by omega)]
      exact hQ _ (S'.drop 0)
end
/-! ### hands -/
def mostOf (r : List Int) : Int := if (0 : Int) > (r.length : Nat) - 1 then 0 else (r.length : Nat) - 1
def mosts (rows : List (List Int)) : List Int := rows.map mostOf
def spHandsX (C CH : Addr) : Sp := fun vs H Q E => ∃ (B : Hp) (M : List (Addr × HO)) (a : Addr) (rows : List (List Int)) (v : V) (b : Bool), vs = [.ref a, v] ∧ Hs B M H ∧ WebAt C B a rows ∧ Valid rows ∧ NmsD B M (mosts rows) v b ∧
  (b = true → ∀ B' H', Same B B' → Hs B' M H' → Q .non H') ∧ (b = false → ∀ B' H', Same B B' → Hs B' M H' → E (.ref CH) none H')
-- check_hands: 0 web, 1 hands, 2 mosts, 3 row
abbrev s_check_hands : Stmt := top 12
theorem sc_check_hands : FnScope ["web", "hands", "mosts", "row"] ["web", "hands"] (defScope s_check_hands) := ⟨rfl, rfl, rfl, by decide +kernel, rfl, by decide +kernel, by decide +kernel⟩
section
variable {P : Program} {w : World} {K : PySem.W.Frag} {mg : Str → Option Value} {base : Heap} {CW CH : Addr}
theorem ok_handsX (T : Names mg) (T_Web : Cls K CW) (R_BadHands : ErrT K mg "BadHands" CH) (G : Glo K mg "check_hands" s_check_hands) (C_are_numbers : Cal P w K mg base "are_numbers" 2 ["thing", "mosts"] spNums) (C_Web_rows : CalM P w K mg base CW "rows" 2 ["self"] (spRowsM CW)) : CalX P w K mg base "check_hands" 3 ["web", "hands"] (spHandsX CW CH) := by
  refine G.calX (k := 2) sc_check_hands (fun _ _ _ _ _ _ us hl => match us, hl with | [_, _], _ => rfl) (fun vs H Q E h => ?_) (fun f cdv A outer s H vs Q E hr h => ?_)
  · obtain ⟨B, M, a, rows, v, b, rfl, _⟩ := h; rfl
  obtain ⟨B, M, a, rows, v, b, rfl, S, hw, hv, hd, hQ, hE⟩ := h
  obtain ⟨dx, t, ha, _⟩ := id hw.ex
  have hle := hv.le
  refine ⟨_, (pss_cons (ps_setLc (i := 2) (own := [("row", 3)]) rfl sc_check_hands.nd rfl rfl (sw_true rfl rfl rfl (by decide +kernel)) (pi_listK K (pe_calM0 (pv 0) T_Web C_Web_rows hr)) (blkOk_by (own := [("row", 3)]) (N := ["web", "hands", "mosts", "row"]) (sc := defScope s_check_hands) (by decide +kernel)) (fun _ _ _ _ _ => (pg_name (i := 3) sc_check_hands.nd rfl (Or.inl rfl))) (fun _ _ _ _ _ => pts_nil) (fun _ _ _ _ _ => (pe_callB (call_max2X rfl) rfl T.n_max (by decide +kernel) (pa_cons (pe_op op_sub (pe_callB (k_len K) rfl T.n_len boot_len (pa_cons (pv 3) pa_nil)) pe_int) (pa_cons pe_int pa_nil))))) (pss_one (ps_if (pt_not (pt_val (pe_cal C_are_numbers hr rfl (pa_cons (pv 1) (pa_cons (pv 2) pa_nil))))) (pss_one (ps_raiseE R_BadHands rfl (takes_of rfl rfl rfl rfl) pe_str rfl)) pss_nil))), ?_⟩
  walk_at "go"
  refine w_methE (S.ex _ _ ha) (look1n (by decide +kernel)) ?_
  walk_at "go"
  refine ⟨B, M, a, rows, rfl, S, hw, hv, fun p as B1 H1 e1 S1 hR _ => ?_⟩
  obtain ⟨B2, e2, hp, S2⟩ := S1.shut 0
  have hR2 := hR.mono e2
  have hal := hR2.length
  refine w_iLE (sqL_of (S2.ex _ _ hp)) ?_
  refine lc_L S2 hp (fun i B' acc => B' = B2 ∧ acc = ((rows.take i).map mostOf).map V.int) ⟨rfl, rfl⟩ ?_ ?_
  · rintro i x D B' acc H' hi hli e S' ⟨rfl, rfl⟩
    obtain ⟨b', hb, rfl⟩ : ∃ b, as[i]? = some b ∧ V.ref b = x := by simpa using hi
    have hil : i < as.length := (List.getElem?_eq_some_iff.mp hb).1
    obtain ⟨r, hr1, hr2⟩ : ∃ r, rows[i]? = some r ∧ LI B' b' r := by
      have hir : i < rows.length := by omega
      obtain ⟨c, h1, h2⟩ := hR2.get (i := i) (List.getElem?_eq_getElem hir)
      rw [hb] at h1; cases h1
      exact ⟨_, List.getElem?_eq_getElem hir, h2⟩
    walk_at "go"
    refine ⟨rfl, ?_⟩
    walk_at "go"
    refine iteT ?_
    walk_at "go"
    refine w_len (sqL_of (S'.ex _ _ hr2)) ?_
    walk_at "go"
    refine lcp S' (Same.refl _) hli (by omega) ⟨rfl, ?_⟩
    rw [List.take_add_one, hr1]
    simp [mostOf]
  · rintro D B' acc H' e S' hli ⟨rfl, rfl⟩
    have e0 : rows.take (as.map V.ref).length = rows := List.take_of_length_le (by simp; omega)
    rw [e0] at S'
    obtain ⟨B3, e3, hm, S3⟩ := S'.shut 0
    walk_at "go"
    refine ⟨B3, M, v, D, mosts rows, b, rfl, S3, hm, by unfold mosts; simp; omega, hd.up ((e1.trans e2).trans e3), fun H4 S4 => ?_⟩
    walk_at "go"
    cases b with
    | true =>
      refine iteF ?_
      exact hQ rfl _ _ ((e1.trans e2).trans e3) S4
    | false =>
      refine iteT ?_
      exact hE rfl _ _ ((e1.trans e2).trans e3) S4
end
end Rw

namespace Rw
open PySem PySem.Spec PyProof.Rows L2
local macro_rules | `(tactic| walk_at "go1") => `(tactic| first
  | (with_reducible refine w_seq ?_)
  | (with_reducible refine w_asg ?_)
  | (with_reducible refine w_name ?_)
  | (with_reducible refine w_drop ?_)
  | (with_reducible refine w_ret ?_)
  | (with_reducible refine w_next ?_)
  | (with_reducible refine w_op ?_)
  | (with_reducible refine w_un ?_)
  | (with_reducible refine w_c ?_)
  | (with_reducible refine w_var (by with_unfolding_all rfl) ?_)
  | (with_reducible refine w_rI0 ?_)
  | (with_reducible refine w_rU ?_)
  | ((with_reducible refine w_mod ?_ ?_); (show (0 : Int) < _); omega)
  | ((with_reducible refine w_div ?_ ?_); exact And.intro (by omega) (by omega))
  | ((with_reducible refine w_mul ?_ ?_); (first | exact Or.inl (And.intro (by omega) (by omega)) | exact Or.inr (And.intro (by omega) (by omega))))
  | (with_reducible refine w_ifS ?_)
  | (with_reducible refine w_if ?_)
  | (with_reducible refine w_test ?_)
  | (with_reducible refine w_B ?_)
  | (with_reducible refine w_bl ?_)
  | (with_reducible refine w_not ?_)
  | (with_reducible refine w_and ?_)
  | (with_reducible refine w_or ?_)
  | (with_reducible refine w_cons ?_)
  | (with_reducible refine w_nil ?_)
  | (with_reducible refine w_call ?_)
  | (with_reducible refine w_cb ?_)
  | (with_reducible refine w_bm0 ?_)
  | (with_reducible refine w_bm ?_)
  | (with_reducible refine w_tlst ?_)
  | (with_reducible refine w_ttup ?_)
  | (with_reducible refine w_sub ?_)
  | (with_reducible refine w_for ?_)
  | (with_reducible refine w_rng1 ?_)
  | ((with_reducible refine w_rngE ?_ ?_ ?_); omega; omega)
  | (with_reducible refine w_iL ?_)
  | (with_reducible refine w_iT ?_)
  | (with_reducible refine w_iE ?_)
  | (with_reducible refine w_iZ ?_)
  | (with_reducible refine w_lc ?_)
  | (with_reducible refine w_yes ?_)
  | (with_reducible refine w_gcons ?_)
  | (with_reducible refine w_gnil ?_)
  | (with_reducible refine w_max2 ?_)
  | (with_reducible refine w_sl ?_)
  | (with_reducible refine w_part ?_)
  | (with_reducible refine w_partI ?_)
  | (with_reducible refine w_nopart ?_)
  | (with_reducible refine w_isT ?_)
  | (with_reducible refine w_notT ?_)
  | (with_reducible refine w_isB ?_)
  | (with_reducible refine w_notB ?_)
  | (with_reducible refine w_isN ?_)
  | (with_reducible refine w_notN ?_)
  | (with_reducible refine w_fld ?_)
  | (with_reducible refine w_ftm ?_)
  | (with_reducible refine w_lrg ?_)
  | (with_reducible refine w_rg1 ?_)
  | (with_reducible refine w_rg1E ?_)
  | (with_reducible refine w_tru ?_)
  | (with_reducible refine w_truB ?_)
  | (with_reducible refine w_truI ?_)
  | (with_reducible refine w_notT' ?_)
  | (with_reducible refine w_andT ?_)
  | (with_reducible refine w_orT ?_)
  | (with_reducible refine w_andV ?_)
  | (with_reducible refine w_orV ?_)
  | (with_reducible refine w_andE ?_)
  | (with_reducible refine w_orE ?_)
  | (with_reducible refine w_notV ?_)
  | (with_reducible refine w_notE ?_)
  | (with_reducible refine w_chain ?_)
  | (with_reducible refine w_chainI ?_)
  | (with_reducible refine w_meth ?_)
  | (with_reducible refine w_make ?_)
  | (with_reducible refine w_sfld ?_))
local macro_rules | `(tactic| walk_at "go") => `(tactic| repeat walk_at "go1")

local macro_rules | `(tactic| walk_at "go1") => `(tactic| first
  | (with_reducible refine w_callX ?_)
  | (with_reducible refine w_methX ?_)
  | (with_reducible refine w_makeX ?_)
  | (with_reducible refine w_augS ?_)
  | (with_reducible refine w_ipI ?_))
/-! ### the yard -/
structure NamesY (mg : Str → Option Value) : Prop extends Names mg where
  c_MOST_WALKERS : ∃ t, mg "MOST_WALKERS" = some (.int 1000 t)
/-- a yard's own parts: itself, its hands, walkers, left, steps; its web and ways -/
structure Yd where
  (a h k l r w y : Addr)
def yfs (z : Yd) : List (Str × V) := [("_web", .ref z.w), ("_ways", .ref z.y), ("_hands", .ref z.h), ("_walkers", .ref z.k), ("_left", .ref z.l), ("_runs", .ref z.r)]
structure YardT (K : PySem.W.Frag) (C : Addr) : Prop where
  cl : Cls K C
  n1 : NoAttr K C "_web"
  n2 : NoAttr K C "_ways"
  n3 : NoAttr K C "_hands"
  n4 : NoAttr K C "_walkers"
  n5 : NoAttr K C "_left"
  n6 : NoAttr K C "_runs"
theorem look_ne {α : Type} {f g : Str} {v : α} {r : List (Str × α)} (h : ¬ g = f) : ((f, v) :: r).lookup g = r.lookup g := by
  have hb : (g == f) = false := beq_eq_false_iff_ne.mpr h
  simp [List.lookup, hb]
theorem look_eq {α : Type} {f : Str} {v : α} {r : List (Str × α)} : ((f, v) :: r).lookup f = some v := by simp [List.lookup]
section
variable {z : Yd}
theorem lk1 : (yfs z).lookup ("_web" : Str) = some (V.ref z.w) := look_eq
theorem lk2 : (yfs z).lookup ("_ways" : Str) = some (V.ref z.y) := (look_ne (by decide +kernel)).trans look_eq
theorem lk3 : (yfs z).lookup ("_hands" : Str) = some (V.ref z.h) := (look_ne (by decide +kernel)).trans ((look_ne (by decide +kernel)).trans look_eq)
theorem lk4 : (yfs z).lookup ("_walkers" : Str) = some (V.ref z.k) := (look_ne (by decide +kernel)).trans ((look_ne (by decide +kernel)).trans ((look_ne (by decide +kernel)).trans look_eq))
theorem lk5 : (yfs z).lookup ("_left" : Str) = some (V.ref z.l) := (look_ne (by decide +kernel)).trans ((look_ne (by decide +kernel)).trans ((look_ne (by decide +kernel)).trans ((look_ne (by decide +kernel)).trans look_eq)))
theorem lk6 : (yfs z).lookup ("_runs" : Str) = some (V.ref z.r) := (look_ne (by decide +kernel)).trans ((look_ne (by decide +kernel)).trans ((look_ne (by decide +kernel)).trans ((look_ne (by decide +kernel)).trans ((look_ne (by decide +kernel)).trans look_eq))))
theorem lk0 {m : Str} (h1 : ¬ m = "_web") (h2 : ¬ m = "_ways") (h3 : ¬ m = "_hands") (h4 : ¬ m = "_walkers") (h5 : ¬ m = "_left") (h6 : ¬ m = "_runs") : (yfs z).lookup m = none :=
  (look_ne h1).trans ((look_ne h2).trans ((look_ne h3).trans ((look_ne h4).trans ((look_ne h5).trans (look1n h6)))))
end
/-- the still part of a yard -/
structure YdI (CY CW : Addr) (B : Hp) (rows : List (List Int)) (z : Yd) : Prop where
  me : ∃ dx, B z.a = some (.ins CY dx (yfs z))
  web : WebAt CW B z.w rows
  ways : LL B z.y rows
theorem YdI.mono {CY CW : Addr} {B B' : Hp} {rows : List (List Int)} {z : Yd} (e : Same B B') (h : YdI CY CW B rows z) : YdI CY CW B' rows z := by
  obtain ⟨dx, h1⟩ := h.me
  exact ⟨⟨dx, e _ _ h1⟩, h.web.mono e, h.ways.mono e⟩
def lv (n : Nat) (f : Nat → Int) : HO := .lst ((vec n f).map V.int)
/-- the steps as they are kept -/
def RunsB (B : Hp) (ra : List Addr) (rs : List (Nat × Nat)) : Prop := Paired (fun t (r : Nat × Nat) => B t = some (.tup [.int (r.1 : Nat), .int (r.2 : Nat)])) ra rs
theorem RunsB.mono {B B' : Hp} (e : Same B B') : ∀ {ra : List Addr} {rs : List (Nat × Nat)}, RunsB B ra rs → RunsB B' ra rs
  | _, _, .nil => .nil
  | _, _, .cons r t => .cons (e _ _ r) (RunsB.mono e t)
theorem RunsB.length {B : Hp} {ra : List Addr} {rs : List (Nat × Nat)} (h : RunsB B ra rs) : ra.length = rs.length := Paired.length h
theorem RunsB.snoc {B : Hp} : ∀ {ra : List Addr} {rs : List (Nat × Nat)} {t : Addr} {p : Nat × Nat}, RunsB B ra rs → B t = some (.tup [.int (p.1 : Nat), .int (p.2 : Nat)]) → RunsB B (ra ++ [t]) (rs ++ [p])
  | _, _, _, _, .nil, h => .cons h .nil
  | _, _, _, _, .cons r t, h => .cons r (RunsB.snoc t h)
theorem RunsB.last {B : Hp} {ra : List Addr} {rs : List (Nat × Nat)} {p : Nat × Nat} (h : RunsB B ra (rs ++ [p])) : ∃ ra' t, ra = ra' ++ [t] ∧ RunsB B ra' rs ∧ B t = some (.tup [.int (p.1 : Nat), .int (p.2 : Nat)]) := by
  induction rs generalizing ra with
  | nil =>
    cases h with
    | cons r t => cases t; exact ⟨[], _, rfl, .nil, r⟩
  | cons q rs ih =>
    cases h with
    | cons r t =>
      obtain ⟨ra', t', rfl, h1, h2⟩ := ih t
      exact ⟨_ :: ra', t', rfl, .cons r h1, h2⟩
def spTurn (CY CW : Addr) : Sp := fun vs H Q _ => ∃ (B : Hp) (M : List (Addr × HO)) (z : Yd) (rows : List (List Int)) (f : Nat → Int) (i : Nat) (t : Int), vs = [.ref z.a, .int i, .int t] ∧ Hs B ((z.h, lv rows.length f) :: M) H ∧ YdI CY CW B rows z ∧ i < rows.length ∧ 0 < degOf rows i ∧
  ∀ H', Hs B ((z.h, lv rows.length (put1 f i ((f i + t) % (degOf rows i : Nat)))) :: M) H' → Q .non H'
def spPointed (CY CW : Addr) : Sp := fun vs H Q _ => ∃ (B : Hp) (M : List (Addr × HO)) (z : Yd) (rows : List (List Int)) (f : Nat → Int) (i : Nat) (v : Int), vs = [.ref z.a, .int i] ∧ Hs B ((z.h, lv rows.length f) :: M) H ∧ YdI CY CW B rows z ∧ i < rows.length ∧ 0 ≤ f i ∧ (rowOf rows i)[(f i).toNat]? = some v ∧ Q (.int v) H
def ycs (n : Nat) (z : Yd) (f g l : Nat → Int) (ra : List Addr) : List (Addr × HO) := [(z.h, lv n f), (z.k, lv n g), (z.l, lv n l), (z.r, .lst (ra.map V.ref))]
theorem Hs.ycs {B H : Hp} {M : List (Addr × HO)} {n : Nat} {z : Yd} {f g l f' g' l' : Nat → Int} {ra : List Addr} (S : Hs B (Rw.ycs n z f g l ra ++ M) H) (hf : ∀ v, v < n → f v = f' v) (hg : ∀ v, v < n → g v = g' v) (hl : ∀ v, v < n → l v = l' v) : Hs B (Rw.ycs n z f' g' l' ra ++ M) H := by
  unfold Rw.ycs lv at S ⊢
  rw [vec_congr hf, vec_congr hg, vec_congr hl] at S
  exact S
def spLeave (CY CW : Addr) : Sp := fun vs H Q _ => ∃ (B : Hp) (M : List (Addr × HO)) (z : Yd) (rows : List (List Int)) (f g l : Nat → Int) (ra : List Addr) (i t : Nat), vs = [.ref z.a, .int (i : Nat), .int (t : Nat)] ∧ Hs B (ycs rows.length z f g l ra ++ M) H ∧ YdI CY CW B rows z ∧ Valid rows ∧ i < rows.length ∧ 0 < degOf rows i ∧ 0 ≤ f i ∧ f i < (degOf rows i : Nat) ∧ ra.length < 16000000 ∧
  ∀ (B' : Hp) (tp : Addr) (H' : Hp), Same B B' → B' tp = some (.tup [.int (i : Nat), .int (t : Nat)]) → Hs B' (ycs rows.length z (put1 f i ((f i + t) % (degOf rows i : Nat))) (fun v => g v - (if v = i then (t : Int) else 0) + arr (rowOf rows i) (f i) t v) (put1 l i (l i + t)) (ra ++ [tp]) ++ M) H' → Q .non H'
-- _turn: 0 self, 1 place, 2 times
abbrev s_Yard_turn : Stmt := inClass (top 15) 10
theorem sc_Yard_turn : FnScope ["self", "place", "times"] ["self", "place", "times"] (defScope s_Yard_turn) := ⟨rfl, rfl, rfl, by decide +kernel, rfl, by decide +kernel, by decide +kernel⟩
-- _pointed: 0 self, 1 place
abbrev s_Yard_pointed : Stmt := inClass (top 15) 9
theorem sc_Yard_pointed : FnScope ["self", "place"] ["self", "place"] (defScope s_Yard_pointed) := ⟨rfl, rfl, rfl, by decide +kernel, rfl, by decide +kernel, by decide +kernel⟩
-- _leave: 0 self, 1 place, 2 times, 3 ways, 4 each, 5 more, 6 other, 7 _
abbrev s_Yard_leave : Stmt := inClass (top 15) 11
theorem sc_Yard_leave : FnScope ["self", "place", "times", "ways", "each", "more", "other", "_"] ["self", "place", "times"] (defScope s_Yard_leave) := ⟨rfl, rfl, rfl, by decide +kernel, rfl, by decide +kernel, by decide +kernel⟩
section
variable {P : Program} {w : World} {K : PySem.W.Frag} {mg : Str → Option Value} {base : Heap} {CY CW CH CP CC CN : Addr}
theorem ways_at {B H : Hp} {z : Yd} {rows : List (List Int)} {i : Nat} (I : YdI CY CW B rows z) (e : Same B H) (hi : i < rows.length) : ∃ (as : List Addr) (b : Addr), H z.y = some (.lst (as.map V.ref)) ∧ (as.map V.ref)[i]? = some (.ref b) ∧ LI H b (rowOf rows i) := by
  obtain ⟨as, h1, h2⟩ := I.ways
  obtain ⟨b, h3, h4⟩ := h2.get (rowOf_get hi)
  exact ⟨as, b, e _ _ h1, by rw [List.getElem?_map, h3]; rfl, e _ _ h4⟩
theorem ok_turn (T : Names mg) (TY : YardT K CY) (G : GloM K CY "_turn" "Yard._turn" s_Yard_turn) : CalM P w K mg base CY "_turn" 1 ["self", "place", "times"] (spTurn CY CW) := by
  refine G.cal (k := 0) sc_Yard_turn (fun _ _ _ _ _ _ us hl => match us, hl with | [_, _, _], _ => rfl) (fun vs H Q E h => ?_) (fun f cdv A outer s H vs Q E hr h => ?_)
  · obtain ⟨B, M, z, rows, f, i, t, rfl, _⟩ := h; rfl
  obtain ⟨B, M, z, rows, f, i, t, rfl, S, I, hi, hd, hQ⟩ := h
  obtain ⟨dx, ha⟩ := I.me
  obtain ⟨as, b, h1, h2, h3⟩ := ways_at I S.ex hi
  refine ⟨_, (pss_one (ps_asg (pe_op op_mod (pe_op op_add (pe_ix (k_ixL K) (pe_fldK K (pv 0) rfl) (pv 1) (fun _ _ => rfl)) (pv 2)) (pe_callB (k_len K) rfl T.n_len boot_len (pa_cons (pe_ix (k_ixL K) (pe_fldK K (pv 0) rfl) (pv 1) (fun _ _ => rfl)) pa_nil))) (pg_sub (pe_fldK K (pv 0) rfl) (pv 1) set_list))), ?_⟩
  walk_at "go"
  refine w_fldE (S.ex _ _ ha) TY.cl TY.n3 lk3 ?_
  walk_at "go"
  refine w_ixL (sqL_of (S.get 0)) (atI_nat (vec_getV hi)) ?_
  walk_at "go"
  refine w_fldE (S.ex _ _ ha) TY.cl TY.n2 lk2 ?_
  walk_at "go"
  refine w_ixL (sqL_of h1) (atI_nat h2) ?_
  walk_at "go"
  refine w_len (sqL_of h3) ?_
  refine w_mod (by rw [List.length_map]; show (0 : Int) < (degOf rows i : Nat); omega) ?_
  walk_at "go"
  refine w_fldE (S.ex _ _ ha) TY.cl TY.n3 lk3 ?_
  walk_at "go"
  refine w_setL S 0 rfl (n := i) (ixN_nat (by simp; omega)) fun H1 S1 => ?_
  refine hQ _ ?_
  rw [vec_setV hi, List.length_map] at S1
  exact S1
theorem ok_pointed (T : Names mg) (TY : YardT K CY) (G : GloM K CY "_pointed" "Yard._pointed" s_Yard_pointed) : CalM P w K mg base CY "_pointed" 1 ["self", "place"] (spPointed CY CW) := by
  refine G.cal (k := 0) sc_Yard_pointed (fun _ _ _ _ _ _ us hl => match us, hl with | [_, _], _ => rfl) (fun vs H Q E h => ?_) (fun f cdv A outer s H vs Q E hr h => ?_)
  · obtain ⟨B, M, z, rows, f, i, v, rfl, _⟩ := h; rfl
  obtain ⟨B, M, z, rows, f, i, v, rfl, S, I, hi, hd, hv, hQ⟩ := h
  obtain ⟨dx, ha⟩ := I.me
  obtain ⟨as, b, h1, h2, h3⟩ := ways_at I S.ex hi
  refine ⟨_, (pss_one (ps_ret (pe_ix (k_ixL K) (pe_ix (k_ixL K) (pe_fldK K (pv 0) rfl) (pv 1) (fun _ _ => rfl)) (pe_ix (k_ixL K) (pe_fldK K (pv 0) rfl) (pv 1) (fun _ _ => rfl)) (fun _ _ => rfl)))), ?_⟩
  walk_at "go"
  refine w_fldE (S.ex _ _ ha) TY.cl TY.n2 lk2 ?_
  walk_at "go"
  refine w_ixL (sqL_of h1) (atI_nat h2) ?_
  walk_at "go"
  refine w_fldE (S.ex _ _ ha) TY.cl TY.n3 lk3 ?_
  walk_at "go"
  refine w_ixL (sqL_of (S.get 0)) (atI_nat (vec_getV hi)) ?_
  refine w_ixL (v := .int v) (sqL_of h3) (at_of (j := (f i).toNat) (by omega) (by rw [List.getElem?_map, hv]; rfl)) ?_
  exact hQ
theorem row_pos {rows : List (List Int)} (hv : Valid rows) {i j : Nat} {x : Int} (hi : i < rows.length) (h : (rowOf rows i)[j]? = some x) : ∃ k : Nat, x = k ∧ k < rows.length := by
  have h1 := (hv.row _ (List.mem_of_getElem? (rowOf_get hi))).2 x (List.mem_of_getElem? h)
  exact ⟨x.toNat, by omega, by omega⟩
theorem deg_le {rows : List (List Int)} (hv : Valid rows) {i : Nat} (hi : i < rows.length) : degOf rows i ≤ 3 := (hv.row _ (List.mem_of_getElem? (rowOf_get hi))).1
theorem ok_leave (T : Names mg) (TY : YardT K CY) (T_Yard : Cls K CY) (G : GloM K CY "_leave" "Yard._leave" s_Yard_leave) (C_Yard_turn : CalM P w K mg base CY "_turn" 1 ["self", "place", "times"] (spTurn CY CW)) (C_Yard_pointed : CalM P w K mg base CY "_pointed" 1 ["self", "place"] (spPointed CY CW)) : CalM P w K mg base CY "_leave" 2 ["self", "place", "times"] (spLeave CY CW) := by
  refine G.cal (k := 1) sc_Yard_leave (fun _ _ _ _ _ _ us hl => match us, hl with | [_, _, _], _ => rfl) (fun vs H Q E h => ?_) (fun f cdv A outer s H vs Q E hr h => ?_)
  · obtain ⟨B, M, z, rows, f, g, l, ra, i, t, rfl, _⟩ := h; rfl
  obtain ⟨B, M, z, rows, f, g, l, ra, i, t, rfl, S, I, hv, hi, hd, f0, f1, hra, hQ⟩ := h
  obtain ⟨dx, ha⟩ := I.me
  obtain ⟨as, b, h1, h2, h3⟩ := ways_at I (Same.refl B) hi
  have hd3 := deg_le hv hi
  refine ⟨_, (pss_cons (ps_set (i := 3) sc_Yard_leave.nd rfl (Or.inl rfl) (pe_ix (k_ixL K) (pe_fldK K (pv 0) rfl) (pv 1) (fun _ _ => rfl))) (pss_cons (ps_asg (pe_callB call_dvm rfl T.n_divmod (by decide +kernel) (pa_cons (pv 2) (pa_cons (pe_callB (k_len K) rfl T.n_len boot_len (pa_cons (pv 3) pa_nil)) pa_nil))) (pg_tupK (n := 2) K rfl (pgs_cons (pg_name (i := 4) sc_Yard_leave.nd rfl (Or.inl rfl)) (pgs_cons (pg_name (i := 5) sc_Yard_leave.nd rfl (Or.inl rfl)) pgs_nil)))) (pss_cons (ps_augS (pe_fldK K (pv 0) rfl) (pv 1) (get_list K) (pv 2) ip_sub set_list) (pss_cons (ps_for PassesOwn.never rfl (pi_listK K (pv 3)) (pg_name (i := 6) sc_Yard_leave.nd rfl (Or.inl rfl)) (pss_one (ps_augS (pe_fldK K (pv 0) rfl) (pv 6) (get_list K) (pv 4) ip_add set_list))) (pss_cons (ps_for PassesOwn.never rfl (pi_range1 rfl T.n_range (pa_cons (pv 5) pa_nil)) (pg_name (i := 7) sc_Yard_leave.nd rfl (Or.inl rfl)) (pss_cons (ps_augS (pe_fldK K (pv 0) rfl) (pe_calM (pv 0) T_Yard C_Yard_pointed hr (pa_cons (pv 1) pa_nil)) (get_list K) pe_int ip_add set_list) (pss_one (ps_expr (pe_calM (pv 0) T_Yard C_Yard_turn hr (pa_cons (pv 1) (pa_cons pe_int pa_nil))))))) (pss_cons (ps_augS (pe_fldK K (pv 0) rfl) (pv 1) (get_list K) (pv 2) ip_add set_list) (pss_one (ps_expr (pe_bmK K PySem.F.plainAttrs_list PySem.F.slot_list_append PySem.F.type_list_append mt_append (pe_fldK K (pv 0) rfl) (pa_cons (pe_tup (pa_cons (pv 1) (pa_cons (pv 2) pa_nil))) pa_nil)))))))))), ?_⟩
  walk_at "go"
  refine w_fldE (S.ex _ _ ha) TY.cl TY.n2 lk2 ?_
  walk_at "go"
  refine w_ixL (sqL_of (S.ex _ _ h1)) (atI_nat h2) ?_
  walk_at "go"
  refine w_len (sqL_of (S.ex _ _ h3)) ?_
  rw [List.length_map]
  have ed : (((rowOf rows i).length : Nat) : Int) = (degOf rows i : Nat) := rfl
  rw [ed]
  walk_at "go"
  refine w_dvm (j := (degOf rows i : Nat)) S (by omega) (by omega) fun p H1 S1 => ?_
  refine w_gtup (sqT_of (S1.get 0)) rfl ?_
  walk_at "go"
  have S1 := S1.drop 0
  refine w_fldE (S1.ex _ _ ha) TY.cl TY.n4 lk4 ?_
  walk_at "go"
  refine w_augGE (sqL_of (S1.get 1)) (by omega) (vec_getV (f := g) (i := i) hi) ?_
  walk_at "go"
  refine w_setL S1 1 rfl (n := i) (ixN_nat (by simp; omega)) fun H2 S2 => ?_
  rw [vec_setV hi] at S2
  have q0 : ∃ q m : Nat, (t : Int) / (degOf rows i : Nat) = q ∧ (t : Int) % (degOf rows i : Nat) = m ∧ t = q * degOf rows i + m ∧ m < degOf rows i := by
    refine ⟨t / degOf rows i, t % degOf rows i, by norm_cast, by norm_cast, ?_, Nat.mod_lt _ hd⟩
    rw [Nat.mul_comm]
    exact (Nat.div_add_mod t _).symm
  obtain ⟨q, m, eq, em, et, hm⟩ := q0
  rw [eq, em]
  walk_at "go"
  refine w_iLE (sqL_of (S2.ex _ _ h3)) ?_
  refine for_lst (xs := (rowOf rows i).map V.int) (fun j σ H => ∃ v6 v7 : Option V, σ = [some (.ref z.a), some (.int i), some (.int t), some (.ref b), some (.int q), some (.int m), v6, v7] ∧ Hs B (ycs rows.length z f (fun v => g v - (if v = i then (t : Int) else 0) + (((rowOf rows i).take j).count (v : Int) : Nat) * (q : Int)) l ra ++ M) H)
    ⟨_, _, rfl, ?_⟩ (fun j σ H _ h => ?_) ?_ ?_
  · refine Hs.ycs (n := rows.length) (z := z) (f := f) (g := put1 g i (g i - t)) (l := l) (ra := ra) S2 (fun _ _ => rfl) (fun v _ => ?_) (fun _ _ => rfl)
    unfold put1
    by_cases h : v = i
    · subst h; simp
    · simp [h]
  · obtain ⟨_, _, _, S3⟩ := h
    exact sqL_of (S3.ex _ _ h3)
  · rintro j x σ H3 hx ⟨v6, v7, rfl, S3⟩
    obtain ⟨c, hc, rfl⟩ : ∃ c, (rowOf rows i)[j]? = some c ∧ V.int c = x := by simpa using hx
    obtain ⟨k, rfl, hk⟩ := row_pos hv hi hc
    walk_at "go"
    refine w_fldE (S3.ex _ _ ha) TY.cl TY.n4 lk4 ?_
    walk_at "go"
    refine w_augGE (sqL_of (S3.get 1)) (by omega) (vec_getV (i := k) hk) ?_
    walk_at "go"
    refine w_setL S3 1 rfl (n := k) (ixN_nat (by simp; omega)) fun H4 S4 => ?_
    rw [vec_setV hk] at S4
    refine ⟨_, _, rfl, ?_⟩
    refine Hs.ycs (n := rows.length) (z := z) (f := f) (g := put1 _ k _) (l := l) (ra := ra) S4 (fun _ _ => rfl) (fun v _ => ?_) (fun _ _ => rfl)
    rw [List.take_add_one, hc]
    unfold put1
    by_cases h : v = k
    · subst h; simp [Int.add_mul]; omega
    · have h' : ¬ (k : Int) = (v : Int) := fun e => h (by omega)
      simp [h, h']
  · rintro σ H3 ⟨v6, v7, rfl, S3⟩
    walk_at "go"
    have em2 : (m : Int).toNat = m := Int.toNat_natCast m
    rw [em2]
    refine for_rng (fun j σ H => ∃ v6 v7 : Option V, σ = [some (.ref z.a), some (.int i), some (.int t), some (.ref b), some (.int q), some (.int m), v6, v7] ∧ Hs B (ycs rows.length z (put1 f i ((f i + j) % (degOf rows i : Nat))) (fun v => g v - (if v = i then (t : Int) else 0) + ((rowOf rows i).count (v : Int) : Nat) * (q : Int) + arr (rowOf rows i) (f i) j v) l ra ++ M) H)
      ⟨_, _, rfl, ?_⟩ ?_ ?_
    · refine Hs.ycs S3 (fun v _ => ?_) (fun v _ => ?_) (fun _ _ => rfl)
      · unfold put1
        split
        · rename_i h
          subst h
          rw [show ((0 : Nat) : Int) = 0 from rfl, Int.add_zero, Int.emod_eq_of_lt f0 f1]
        · rfl
      · rw [List.length_map, List.take_length]
        show _ = _ + 0
        omega
    · rintro j σ H4 hj ⟨v6, v7, rfl, S4⟩
      have hp : (rowOf rows i)[((f i + j) % (degOf rows i : Nat)).toNat]? = some ((rowOf rows i).getD ((f i + j) % (degOf rows i : Nat)).toNat (-1)) := by
        have a1 := Int.emod_nonneg (f i + j) (show ((degOf rows i : Nat) : Int) ≠ 0 by omega)
        have a2 := Int.emod_lt_of_pos (f i + j) (show (0 : Int) < (degOf rows i : Nat) by omega)
        have a3 : ((f i + j) % (degOf rows i : Nat)).toNat < (rowOf rows i).length := by show _ < degOf rows i; omega
        rw [List.getD_eq_getElem?_getD, List.getElem?_eq_getElem a3]; rfl
      obtain ⟨k, ek, hk⟩ := row_pos hv hi hp
      walk_at "go"
      refine w_fldE (S4.ex _ _ ha) TY.cl TY.n4 lk4 ?_
      walk_at "go"
      refine w_methE (S4.ex _ _ ha) (lk0 (by decide +kernel) (by decide +kernel) (by decide +kernel) (by decide +kernel) (by decide +kernel) (by decide +kernel)) ?_
      walk_at "go"
      refine ⟨B, _, z, rows, _, i, k, rfl, S4, I, hi, ?_, ?_, ?_⟩
      · unfold put1; rw [if_pos rfl]; exact Int.emod_nonneg _ (by omega)
      · unfold put1; rw [if_pos rfl]; rw [hp, ek]
      refine w_augGE (sqL_of (S4.get 1)) (by omega) (vec_getV (i := k) hk) ?_
      walk_at "go"
      refine w_setL S4 1 rfl (n := k) (ixN_nat (by simp; omega)) fun H5 S5 => ?_
      rw [vec_setV hk] at S5
      walk_at "go"
      refine w_methE (S5.ex _ _ ha) (lk0 (by decide +kernel) (by decide +kernel) (by decide +kernel) (by decide +kernel) (by decide +kernel) (by decide +kernel)) ?_
      walk_at "go"
      refine ⟨B, _, z, rows, _, i, 1, rfl, S5, I, hi, hd, fun H6 S6 => ?_⟩
      refine ⟨_, _, rfl, ?_⟩
      refine Hs.ycs (n := rows.length) (z := z) (f := put1 (put1 f i _) i _) (g := put1 _ k _) (l := l) (ra := ra) S6 (fun v _ => ?_) (fun v _ => ?_) (fun _ _ => rfl)
      · unfold put1
        by_cases h : v = i
        · subst h
          simp only [if_true]
          rw [Int.emod_add_emod, Int.natCast_add, Int.add_assoc]; rfl
        · simp only [h, if_false]
      · show put1 _ _ _ v = _ + (arr (rowOf rows i) (f i) j v + (if (rowOf rows i).getD ((f i + j) % (degOf rows i : Nat)).toNat (-1) = (v : Int) then 1 else 0))
        rw [ek]
        unfold put1
        by_cases h : v = k
        · subst h; simp; omega
        · have h' : ¬ (k : Int) = (v : Int) := fun e => h (by omega)
          simp [h, h']
    · rintro σ H4 ⟨v6, v7, rfl, S4⟩
      walk_at "go"
      refine w_fldE (S4.ex _ _ ha) TY.cl TY.n5 lk5 ?_
      walk_at "go"
      refine w_augGE (sqL_of (S4.get 2)) (by omega) (vec_getV (i := i) hi) ?_
      walk_at "go"
      refine w_setL S4 2 rfl (n := i) (ixN_nat (by simp; omega)) fun H5 S5 => ?_
      rw [vec_setV hi] at S5
      walk_at "go"
      refine w_fldE (S5.ex _ _ ha) TY.cl TY.n6 lk6 ?_
      walk_at "go"
      refine ⟨tyL (sqL_of (S5.get 3)), ?_⟩
      walk_at "go"
      refine w_tup S5 (len_ok (by simp)) fun tp H6 S6 => ?_
      walk_at "go"
      refine w_append S6 4 rfl (by rw [List.length_map]; exact small (m := 16000000) (by omega)) fun H7 S7 => ?_
      obtain ⟨B2, e2, htp, S8⟩ := S7.shut 0
      refine hQ B2 tp H7 e2 htp ?_
      have S9 : Hs B2 (ycs rows.length z (put1 f i ((f i + m) % (degOf rows i : Nat))) (fun v => g v - (if v = i then (t : Int) else 0) + ((rowOf rows i).count (v : Int) : Nat) * (q : Int) + arr (rowOf rows i) (f i) m v) (put1 l i (l i + t)) (ra ++ [tp]) ++ M) H7 := by
        unfold ycs
        rw [List.map_append]
        exact S8
      refine Hs.ycs S9 (fun v _ => ?_) (fun v _ => ?_) (fun _ _ => rfl)
      · unfold put1
        by_cases h : v = i
        · subst h
          simp only [if_true]
          rw [et, Int.natCast_add, Int.natCast_mul, ← Int.add_assoc, Int.add_right_comm, Int.add_mul_emod_self_right]
        · simp only [h, if_false]
      · rw [show arr (rowOf rows i) (f i) t v = arr (rowOf rows i) (f i) (q * (rowOf rows i).length + m) v from by rw [et]; rfl, arr_rounds _ _ _ f0, Int.mul_comm]
        show _ = _ + (_ + _)
        omega
end
end Rw

namespace Rw
open PySem PySem.Spec PyProof.Rows L2
local macro_rules | `(tactic| walk_at "go1") => `(tactic| first
  | (with_reducible refine w_seq ?_)
  | (with_reducible refine w_asg ?_)
  | (with_reducible refine w_name ?_)
  | (with_reducible refine w_drop ?_)
  | (with_reducible refine w_ret ?_)
  | (with_reducible refine w_next ?_)
  | (with_reducible refine w_op ?_)
  | (with_reducible refine w_un ?_)
  | (with_reducible refine w_c ?_)
  | (with_reducible refine w_var (by with_unfolding_all rfl) ?_)
  | (with_reducible refine w_rI0 ?_)
  | (with_reducible refine w_rU ?_)
  | ((with_reducible refine w_mod ?_ ?_); (show (0 : Int) < _); omega)
  | ((with_reducible refine w_div ?_ ?_); exact And.intro (by omega) (by omega))
  | ((with_reducible refine w_mul ?_ ?_); (first | exact Or.inl (And.intro (by omega) (by omega)) | exact Or.inr (And.intro (by omega) (by omega))))
  | (with_reducible refine w_ifS ?_)
  | (with_reducible refine w_if ?_)
  | (with_reducible refine w_test ?_)
  | (with_reducible refine w_B ?_)
  | (with_reducible refine w_bl ?_)
  | (with_reducible refine w_not ?_)
  | (with_reducible refine w_and ?_)
  | (with_reducible refine w_or ?_)
  | (with_reducible refine w_cons ?_)
  | (with_reducible refine w_nil ?_)
  | (with_reducible refine w_call ?_)
  | (with_reducible refine w_cb ?_)
  | (with_reducible refine w_bm0 ?_)
  | (with_reducible refine w_bm ?_)
  | (with_reducible refine w_tlst ?_)
  | (with_reducible refine w_ttup ?_)
  | (with_reducible refine w_sub ?_)
  | (with_reducible refine w_for ?_)
  | (with_reducible refine w_rng1 ?_)
  | ((with_reducible refine w_rngE ?_ ?_ ?_); omega; omega)
  | (with_reducible refine w_iL ?_)
  | (with_reducible refine w_iT ?_)
  | (with_reducible refine w_iE ?_)
  | (with_reducible refine w_iZ ?_)
  | (with_reducible refine w_lc ?_)
  | (with_reducible refine w_yes ?_)
  | (with_reducible refine w_gcons ?_)
  | (with_reducible refine w_gnil ?_)
  | (with_reducible refine w_max2 ?_)
  | (with_reducible refine w_sl ?_)
  | (with_reducible refine w_part ?_)
  | (with_reducible refine w_partI ?_)
  | (with_reducible refine w_nopart ?_)
  | (with_reducible refine w_isT ?_)
  | (with_reducible refine w_notT ?_)
  | (with_reducible refine w_isB ?_)
  | (with_reducible refine w_notB ?_)
  | (with_reducible refine w_isN ?_)
  | (with_reducible refine w_notN ?_)
  | (with_reducible refine w_fld ?_)
  | (with_reducible refine w_ftm ?_)
  | (with_reducible refine w_lrg ?_)
  | (with_reducible refine w_rg1 ?_)
  | (with_reducible refine w_rg1E ?_)
  | (with_reducible refine w_tru ?_)
  | (with_reducible refine w_truB ?_)
  | (with_reducible refine w_truI ?_)
  | (with_reducible refine w_notT' ?_)
  | (with_reducible refine w_andT ?_)
  | (with_reducible refine w_orT ?_)
  | (with_reducible refine w_andV ?_)
  | (with_reducible refine w_orV ?_)
  | (with_reducible refine w_andE ?_)
  | (with_reducible refine w_orE ?_)
  | (with_reducible refine w_notV ?_)
  | (with_reducible refine w_notE ?_)
  | (with_reducible refine w_chain ?_)
  | (with_reducible refine w_chainI ?_)
  | (with_reducible refine w_meth ?_)
  | (with_reducible refine w_make ?_)
  | (with_reducible refine w_sfld ?_))
local macro_rules | `(tactic| walk_at "go") => `(tactic| repeat walk_at "go1")

local macro_rules | `(tactic| walk_at "go1") => `(tactic| first
  | (with_reducible refine w_callX ?_)
  | (with_reducible refine w_methX ?_)
  | (with_reducible refine w_makeX ?_)
  | (with_reducible refine w_augS ?_)
  | (with_reducible refine w_ipI ?_))
/-! ### the yard as it stands -/
def ycc (rows : List (List Int)) (z : Yd) (y : YS) (ra : List Addr) : List (Addr × HO) := ycs rows.length z (hx rows y.h0 y.x) (wx rows y.h0 y.p y.x) (fun i => (y.x i : Nat)) ra
theorem Hs.leave {B H : Hp} {M : List (Addr × HO)} {rows : List (List Int)} {z : Yd} {y : YS} {ra : List Addr} {i t : Nat} (hi : i < rows.length)
    (S : Hs B (Rw.ycs rows.length z (put1 (hx rows y.h0 y.x) i ((hx rows y.h0 y.x i + t) % (degOf rows i : Nat))) (fun v => wx rows y.h0 y.p y.x v - (if v = i then (t : Int) else 0) + arr (rowOf rows i) (hx rows y.h0 y.x i) t v) (put1 (fun i => (y.x i : Nat)) i ((y.x i : Nat) + (t : Int))) ra ++ M) H) :
    Hs B (ycc rows z (y.more i t) ra ++ M) H := by
  have e : (y.more i t).x = up y.x i t := xsum_snoc _
  refine Hs.ycs S (fun v _ => ?_) (fun v _ => ?_) (fun v _ => ?_)
  · rw [e]; exact (congrFun hx_up v).symm
  · rw [e]; exact (wx_up hi).symm
  · rw [e]
    unfold put1 up
    split <;> rename_i h
    · rw [h]; simp
    · rfl
theorem mosts_get {rows : List (List Int)} {i : Nat} {m : Int} (h : (mosts rows)[i]? = some m) : i < rows.length ∧ m = mostOf (rowOf rows i) := by
  unfold mosts at h
  rw [List.getElem?_map] at h
  cases e : rows[i]? with
  | none => rw [e] at h; cases h
  | some r =>
    have hi := (List.getElem?_eq_some_iff.mp e).1
    rw [e] at h
    rw [rowOf_get hi] at e
    cases e
    exact ⟨hi, (Option.some.inj h).symm⟩
theorem hands_good {H : Hp} {M : List (Addr × HO)} {a : Addr} {rows : List (List Int)} {h0 : Nat → Int} (h : Stay H M a (lv rows.length h0)) (hh : Hands rows h0) : NmsD H M (mosts rows) (.ref a) true := by
  refine nmsD_good h (by unfold mosts; simp) fun i m x h1 h2 => ?_
  obtain ⟨hi, rfl⟩ := mosts_get h1
  rw [vec_get hi] at h2
  cases h2
  have := hh i hi
  unfold mostOf
  unfold degOf at this
  split <;> omega
/-- what is handed in as hands -/
inductive HdV (B : Hp) (M : List (Addr × HO)) (rows : List (List Int)) : V → Bool → (Nat → Int) → Prop where
  | non : HdV B M rows .non true (fun _ => 0)
  | lst {a : Addr} {h0 : Nat → Int} (h : Stay B M a (lv rows.length h0)) (hh : Hands rows h0) : HdV B M rows (.ref a) true h0
  | bad {v : V} {h0 : Nat → Int} (h : NmsD B M (mosts rows) v false) (hn : v ≠ .non) : HdV B M rows v false h0
theorem hands_zero (rows : List (List Int)) : Hands rows (fun _ => 0) := fun _ _ => ⟨Int.le_refl _, .inr rfl⟩
def zero : Nat → Int := fun _ => 0
def spYInit0 (CY CW CH : Addr) : Sp := fun vs H Q E => ∃ (B : Hp) (M : List (Addr × HO)) (x dx wa : Addr) (rows : List (List Int)) (v : V) (b : Bool) (h0 : Nat → Int), vs = [.ref x, .ref wa, v] ∧ Hs B ((x, .ins CY dx []) :: (dx, .own x) :: M) H ∧ WebAt CW B wa rows ∧ Valid rows ∧ HdV B M rows v b h0 ∧
  (b = true → ∀ (z : Yd) (B' H' : Hp), z.a = x → z.w = wa → Same B B' → WebAt CW B' z.w rows → LL B' z.y rows → Hands rows h0 → Hs B' ((z.a, .ins CY dx (yfs z)) :: (ycs rows.length z h0 zero zero [] ++ M)) H' → Q .non H') ∧
  (b = false → ∀ B' H', Same B B' → Hs B' M H' → E (.ref CH) none H')
def spYInit (CY CW CH : Addr) : Sp := fun vs H Q E => ∃ (B : Hp) (M : List (Addr × HO)) (x dx wa : Addr) (rows : List (List Int)) (v : V) (b : Bool) (h0 : Nat → Int), vs = [.ref x, .ref wa, v] ∧ Hs B ((x, .ins CY dx []) :: (dx, .own x) :: M) H ∧ WebAt CW B wa rows ∧ Valid rows ∧ HdV B M rows v b h0 ∧
  (b = true → ∀ (z : Yd) (B' H' : Hp), z.a = x → z.w = wa → Same B B' → YdI CY CW B' rows z → Hands rows h0 → Hs B' (ycs rows.length z h0 zero zero [] ++ M) H' → Q .non H') ∧
  (b = false → ∀ B' H', Same B B' → Hs B' M H' → E (.ref CH) none H')
theorem init_imp {CY CW CH : Addr} {vs : List V} {H : Hp} {Q : VK} {E : XK} (h : spYInit CY CW CH vs H Q E) : spYInit0 CY CW CH vs H Q E := by
  obtain ⟨B, M, x, dx, wa, rows, v, b, h0, rfl, S, hw, hv, hd, hQ, hE⟩ := h
  refine ⟨B, M, x, dx, wa, rows, v, b, h0, rfl, S, hw, hv, hd, fun hb z B' H' ea ew e hw' hl hh S' => ?_, hE⟩
  obtain ⟨B2, e2, hx, S2⟩ := S'.shut 0
  exact hQ hb z B2 H' ea ew (e.trans e2) ⟨⟨dx, hx⟩, hw'.mono e2, hl.mono e2⟩ hh S2
def spRead (CY CW : Addr) (fld : Yd → Addr) : Sp := fun vs H Q _ => ∃ (B : Hp) (M : List (Addr × HO)) (z : Yd) (rows : List (List Int)) (f : Nat → Int) (n j : Nat), vs = [.ref z.a] ∧ Hs B M H ∧ YdI CY CW B rows z ∧ M[j]? = some (fld z, lv n f) ∧ ∀ p H', Hs B ((p, lv n f) :: M) H' → Q (.ref p) H'
def spPut (CY CW CP CC : Addr) : Sp := fun vs H Q E => ∃ (B : Hp) (M : List (Addr × HO)) (z : Yd) (rows : List (List Int)) (y : YS) (ra : List Addr) (v u : V) (b c : Bool), vs = [.ref z.a, v, u] ∧ Hs B (ycc rows z y ra ++ M) H ∧ YdI CY CW B rows z ∧ rows.length ≤ 8 ∧ PlD B (rows.length : Nat) v b ∧ NmD B 1 1000 u c ∧
  (b = true → c = true → ∀ (i : Nat) (m : Int) (H' : Hp), v = .int i → u = .int m → i < rows.length → Hs B (ycc rows z (y.put i m) ra ++ M) H' → Q .non H') ∧
  (b = false → ∀ H', Hs B (ycc rows z y ra ++ M) H' → E (.ref CP) none H') ∧ (b = true → c = false → ∀ H', Hs B (ycc rows z y ra ++ M) H' → E (.ref CC) none H')
def spStep (CY CW CP CN : Addr) : Sp := fun vs H Q E => ∃ (B : Hp) (M : List (Addr × HO)) (z : Yd) (rows : List (List Int)) (y : YS) (ra : List Addr) (v : V) (b : Bool), vs = [.ref z.a, v] ∧ Hs B (ycc rows z y ra ++ M) H ∧ YdI CY CW B rows z ∧ Valid rows ∧ PlD B (rows.length : Nat) v b ∧
  (b = true → ∀ (i : Nat), v = .int i → i < rows.length →
    ((degOf rows i = 0 ∨ wx rows y.h0 y.p y.x i = 0) ∧ ∀ H', Hs B (ycc rows z y ra ++ M) H' → E (.ref CN) none H') ∨
    (0 < degOf rows i ∧ wx rows y.h0 y.p y.x i ≠ 0 ∧ ra.length < 16000000 ∧ ∀ (B' : Hp) (tp : Addr) (H' : Hp), Same B B' → B' tp = some (.tup [.int i, .int (1 : Nat)]) → Hs B' (ycc rows z (y.more i 1) (ra ++ [tp]) ++ M) H' → Q (.int (ptx rows y.h0 y.x i)) H')) ∧
  (b = false → ∀ H', Hs B (ycc rows z y ra ++ M) H' → E (.ref CP) none H')
def spBack (CY CW CN : Addr) : Sp := fun vs H Q E => ∃ (B : Hp) (M : List (Addr × HO)) (z : Yd) (rows : List (List Int)) (y : YS) (ra : List Addr), vs = [.ref z.a] ∧ Hs B (ycc rows z y ra ++ M) H ∧ YdI CY CW B rows z ∧ Valid rows ∧ YOk rows y ∧ RunsB B ra y.rs ∧ ra.length < 16000000 ∧
  ((y.rs = [] ∧ ∀ H', Hs B (ycc rows z y ra ++ M) H' → E (.ref CN) none H') ∨
    ∃ (rs : List (Nat × Nat)) (i t : Nat), y.rs = rs ++ [(i, t)] ∧ ∀ (B' : Hp) (tp : Addr) (ra' : List Addr) (H' : Hp), Same B B' → B' tp = some (.tup [.int i, .int (ptx rows y.h0 (xsum (lastOff rs i t)) i)]) → RunsB B' ra' (lastOff rs i t) → Hs B' (ycc rows z { y with rs := lastOff rs i t } ra' ++ M) H' → Q (.ref tp) H')
-- __init__: 0 self, 1 web, 2 hands
abbrev s_Yard_init : Stmt := inClass (top 15) 0
theorem sc_Yard_init : FnScope ["self", "web", "hands"] ["self", "web", "hands"] (defScope s_Yard_init) := ⟨rfl, rfl, rfl, by decide +kernel, rfl, by decide +kernel, by decide +kernel⟩
-- hands: 0 self
abbrev s_Yard_hands : Stmt := inClass (top 15) 1
theorem sc_Yard_hands : FnScope ["self"] ["self"] (defScope s_Yard_hands) := ⟨rfl, rfl, rfl, by decide +kernel, rfl, by decide +kernel, by decide +kernel⟩
-- walkers: 0 self
abbrev s_Yard_walkers : Stmt := inClass (top 15) 2
theorem sc_Yard_walkers : FnScope ["self"] ["self"] (defScope s_Yard_walkers) := ⟨rfl, rfl, rfl, by decide +kernel, rfl, by decide +kernel, by decide +kernel⟩
-- put: 0 self, 1 place, 2 many
abbrev s_Yard_put : Stmt := inClass (top 15) 4
theorem sc_Yard_put : FnScope ["self", "place", "many"] ["self", "place", "many"] (defScope s_Yard_put) := ⟨rfl, rfl, rfl, by decide +kernel, rfl, by decide +kernel, by decide +kernel⟩
-- step: 0 self, 1 place, 2 other
abbrev s_Yard_step : Stmt := inClass (top 15) 5
theorem sc_Yard_step : FnScope ["self", "place", "other"] ["self", "place"] (defScope s_Yard_step) := ⟨rfl, rfl, rfl, by decide +kernel, rfl, by decide +kernel, by decide +kernel⟩
-- back: 0 self, 1 place, 2 times, 3 other
abbrev s_Yard_back : Stmt := inClass (top 15) 6
theorem sc_Yard_back : FnScope ["self", "place", "times", "other"] ["self"] (defScope s_Yard_back) := ⟨rfl, rfl, rfl, by decide +kernel, rfl, by decide +kernel, by decide +kernel⟩
section
variable {P : Program} {w : World} {K : PySem.W.Frag} {mg : Str → Option Value} {base : Heap} {CY CW CH CP CC CN : Addr}
theorem hv_of {B : Hp} {M : List (Addr × HO)} {rows : List (List Int)} {v : V} {b : Bool} {h0 : Nat → Int} (h : HdV B M rows v b h0) (hn : v ≠ .non) : NmsD B M (mosts rows) v b ∧ (b = true → ∃ a, v = .ref a ∧ Stay B M a (lv rows.length h0) ∧ Hands rows h0) := by
  cases h with
  | non => exact absurd rfl hn
  | lst h hh => exact ⟨hands_good h hh, fun _ => ⟨_, rfl, h, hh⟩⟩
  | bad h _ => exact ⟨h, fun q => nomatch q⟩
theorem putF_end {f : Str} {v : V} : ∀ {fs : List (Str × V)}, (∀ q ∈ fs, ¬ q.1 = f) → putF f v fs = fs ++ [(f, v)]
  | [], _ => rfl
  | (g, x) :: r, h => by
    show (if g = f then (g, v) :: r else (g, x) :: putF f v r) = _
    rw [if_neg (h (g, x) List.mem_cons_self), putF_end fun q hq => h q (List.mem_cons_of_mem _ hq)]
    rfl
theorem body_init (T : NamesY mg) (TY : YardT K CY) (T_Web : Cls K CW) (XC_check_hands : CalX P w K mg base "check_hands" 3 ["web", "hands"] (spHandsX CW CH)) (C_Web_rows : CalM P w K mg base CW "rows" 3 ["self"] (spRowsM CW)) (C_Web_many : CalM P w K mg base CW "many" 3 ["self"] (spMany CW)) : BodyX P w K mg base ["self", "web", "hands"] "Yard.__init__" s_Yard_init 3 (spYInit0 CY CW CH) := by
  intro f cdv A outer s H vs Q E hr h
  obtain ⟨B, M, x, dx, wa, rows, v, b, h0, rfl, S, hw, hv, hd, hQ, hE⟩ := h
  obtain ⟨dw, tw, hwa, _⟩ := id hw.ex
  have hle := hv.le
  have sc_Yard_init := sc_Yard_init
  refine ⟨_, (pss_cons (ps_if (pt_cmpR op_isNX (pv 2) pe_non (nomark _)) (pss_one (ps_set (i := 2) sc_Yard_init.nd rfl (Or.inl rfl) (pe_op op_rep (pe_lst (pa_cons pe_int pa_nil)) (pe_calM0 (pv 1) T_Web C_Web_many hr)))) pss_nil) (pss_cons (ps_expr (pe_calX XC_check_hands hr rfl (takes_of rfl rfl rfl rfl) (fun _ _ _ _ h => h) (pa_cons (pv 1) (pa_cons (pv 2) pa_nil)))) (pss_cons (ps_fldK K (pv 0) (pv 1) rfl) (pss_cons (ps_fldK K (pv 0) (pe_calM0 (pv 1) T_Web C_Web_rows hr) rfl) (pss_cons (ps_fldK K (pv 0) (pe_callTy (k_list K) rfl T.n_list (by decide +kernel) (pa_cons (pv 2) pa_nil)) rfl) (pss_cons (ps_fldK K (pv 0) (pe_op op_rep (pe_lst (pa_cons pe_int pa_nil)) (pe_calM0 (pv 1) T_Web C_Web_many hr)) rfl) (pss_cons (ps_fldK K (pv 0) (pe_op op_rep (pe_lst (pa_cons pe_int pa_nil)) (pe_calM0 (pv 1) T_Web C_Web_many hr)) rfl) (pss_one (ps_fldK K (pv 0) (pe_lst pa_nil) rfl))))))))), ?_⟩
  walk_at "go"
  suffices hk : ∀ (B1 : Hp) (M1 : List (Addr × HO)) (H1 : Hp) (v' : V), Same B B1 → Hs B1 ((x, .ins CY dx []) :: (dx, .own x) :: M) H1 → v' ≠ .non → HdV B1 M rows v' b h0 →
      tSeq (tDrop (tCall (spHandsX CW CH) [] E (tCons (tVar 1) (tCons (tVar 2) tNil)))) _ { nx := fun _ H' => Q .non H', rt := Q } [some (.ref x), some (.ref wa), some v'] H1 by
    by_cases hn : v = .non
    · subst hn
      refine iteP rfl ?_
      walk_at "go"
      refine w_lst S (len_ok (by simp)) fun q H1 S1 => ?_
      walk_at "go"
      refine w_methE (S1.ex _ _ hwa) (look1n (by decide +kernel)) ?_
      walk_at "go"
      refine ⟨wa, rows, rfl, hw.mono S1.ex, ?_⟩
      refine w_rep S1 (S1.get 0) (by omega) (by omega) (small' (m := 8) (by simp; omega)) fun q2 H2 S2 => ?_
      rw [Int.toNat_natCast, rep_int] at S2
      obtain ⟨B3, e3, hq, S3⟩ := (S2.drop 1).shut 0
      cases hd with
      | non => exact hk B3 M H2 (.ref q2) e3 S3 (by simp) (.lst (Stay.ofB hq) (hands_zero _))
      | bad h hn => exact absurd rfl hn
    · refine iteN hn ?_
      exact hk B M H v (Same.refl _) S hn hd
  intro B1 M1 H1 v' e1 S1 hn1 hd1
  obtain ⟨hnm, hvl⟩ := hv_of hd1 hn1
  have hw1 := hw.mono e1
  walk_at "go"
  refine ⟨B1, _, wa, rows, v', b, rfl, S1, hw1, hv, hnm.cons.cons, fun hb B2 H2 e2 S2 => ?_, fun hb B2 H2 e2 S2 => hE hb B2 H2 (e1.trans e2) ((S2.drop 0).drop 0)⟩
  subst hb
  obtain ⟨ha, rfl, hl, hh⟩ := hvl rfl
  have hw2 := hw1.mono e2
  have hwa2 := e2 _ _ (e1 _ _ hwa)
  walk_at "go"
  refine w_sfldE S2 0 rfl TY.cl TY.n1 (by simp) fun H3 S3 => ?_
  walk_at "go"
  refine w_methE (S3.ex _ _ hwa2) (look1n (by decide +kernel)) ?_
  walk_at "go"
  refine ⟨B2, _, wa, rows, rfl, S3, hw2, hv, fun p as B4 H4 e4 S4 hR _ => ?_⟩
  obtain ⟨B5, e5, hp, S5⟩ := S4.shut 0
  walk_at "go"
  refine w_sfldE S5 0 rfl TY.cl TY.n2 (by show (putF _ _ _).length < 1000; rw [putF_end (by simp)]; simp) fun H6 S6 => ?_
  have e25 := e4.trans e5
  walk_at "go"
  refine w_listL S6 (sqL_of (((hl.up (e2.trans e25)).cons.cons).at S6)) fun q1 H7 S7 => ?_
  walk_at "go"
  have l2 : ∀ (u1 u2 : V), putF "_ways" u2 (putF "_web" u1 []) = ([("_web", u1), ("_ways", u2)] : List (Str × V)) := fun u1 u2 => by
    rw [putF_end (f := "_web") (by simp), putF_end (by intro q hq; simp at hq; subst hq; dsimp only; decide +kernel)]; rfl
  have l3 : ∀ (u1 u2 u3 : V), putF "_hands" u3 ([("_web", u1), ("_ways", u2)] : List (Str × V)) = ([("_web", u1), ("_ways", u2), ("_hands", u3)] : List (Str × V)) := fun u1 u2 u3 => by
    rw [putF_end (by intro q hq; simp at hq; rcases hq with rfl | rfl <;> (dsimp only; decide +kernel))]; rfl
  have l4 : ∀ (u1 u2 u3 u4 : V), putF "_walkers" u4 ([("_web", u1), ("_ways", u2), ("_hands", u3)] : List (Str × V)) = ([("_web", u1), ("_ways", u2), ("_hands", u3), ("_walkers", u4)] : List (Str × V)) := fun u1 u2 u3 u4 => by
    rw [putF_end (by intro q hq; simp at hq; rcases hq with rfl | rfl | rfl <;> (dsimp only; decide +kernel))]; rfl
  have l5 : ∀ (u1 u2 u3 u4 u5 : V), putF "_left" u5 ([("_web", u1), ("_ways", u2), ("_hands", u3), ("_walkers", u4)] : List (Str × V)) = ([("_web", u1), ("_ways", u2), ("_hands", u3), ("_walkers", u4), ("_left", u5)] : List (Str × V)) := fun u1 u2 u3 u4 u5 => by
    rw [putF_end (by intro q hq; simp at hq; rcases hq with rfl | rfl | rfl | rfl <;> (dsimp only; decide +kernel))]; rfl
  have l6 : ∀ (u1 u2 u3 u4 u5 u6 : V), putF "_runs" u6 ([("_web", u1), ("_ways", u2), ("_hands", u3), ("_walkers", u4), ("_left", u5)] : List (Str × V)) = ([("_web", u1), ("_ways", u2), ("_hands", u3), ("_walkers", u4), ("_left", u5), ("_runs", u6)] : List (Str × V)) := fun u1 u2 u3 u4 u5 u6 => by
    rw [putF_end (by intro q hq; simp at hq; rcases hq with rfl | rfl | rfl | rfl | rfl <;> (dsimp only; decide +kernel))]; rfl
  have S7 : Hs B5 ((q1, .lst ((vec rows.length h0).map V.int)) :: (x, .ins CY dx [("_web", .ref wa), ("_ways", .ref p)]) :: (dx, .own x) :: M) H7 := by
    rw [← l2]; exact S7
  refine w_sfldE S7 1 rfl TY.cl TY.n3 (by simp) fun H8 S8 => ?_
  rw [l3] at S8
  walk_at "go"
  refine w_lst S8 (len_ok (by simp)) fun c1 H9 S9 => ?_
  walk_at "go"
  refine w_methE (S9.ex _ _ (e25 _ _ hwa2)) (look1n (by decide +kernel)) ?_
  walk_at "go"
  refine ⟨wa, rows, rfl, (hw2.mono e25).mono S9.ex, ?_⟩
  refine w_rep S9 (S9.get 0) (by omega) (by omega) (small' (m := 8) (by simp; omega)) fun q2 H10 S10 => ?_
  rw [Int.toNat_natCast, rep_int] at S10
  walk_at "go"
  refine w_sfldE S10 3 rfl TY.cl TY.n4 (by simp) fun H11 S11 => ?_
  rw [l4] at S11
  walk_at "go"
  refine w_lst S11 (len_ok (by simp)) fun c2 H12 S12 => ?_
  walk_at "go"
  refine w_methE (S12.ex _ _ (e25 _ _ hwa2)) (look1n (by decide +kernel)) ?_
  walk_at "go"
  refine ⟨wa, rows, rfl, (hw2.mono e25).mono S12.ex, ?_⟩
  refine w_rep S12 (S12.get 0) (by omega) (by omega) (small' (m := 8) (by simp; omega)) fun q3 H13 S13 => ?_
  rw [Int.toNat_natCast, rep_int] at S13
  walk_at "go"
  refine w_sfldE S13 5 rfl TY.cl TY.n5 (by simp) fun H14 S14 => ?_
  rw [l5] at S14
  walk_at "go"
  refine w_lst S14 (len_ok (by simp)) fun q4 H15 S15 => ?_
  walk_at "go"
  refine w_sfldE S15 6 rfl TY.cl TY.n6 (by simp) fun H16 S16 => ?_
  rw [l6] at S16
  -- q4 q3 c2 q2 c1 q1 x dx
  have S18 := (((((((S16.drop 7).drop 4).drop 2).first 1).first 2).first 3).first 4)
  exact hQ rfl ⟨x, q1, q2, q3, q4, wa, p⟩ B5 _ rfl rfl ((e1.trans e2).trans e25) (hw2.mono e25) ⟨as, hp, hR.mono e5⟩ hh S18
theorem ok_hands (T : NamesY mg) (TY : YardT K CY) (G : GloM K CY "hands" "Yard.hands" s_Yard_hands) : CalM P w K mg base CY "hands" 1 ["self"] (spRead CY CW Yd.h) := by
  refine G.cal (k := 0) sc_Yard_hands (fun _ _ _ _ _ _ us hl => match us, hl with | [_], _ => rfl) (fun vs H Q E h => ?_) (fun f cdv A outer s H vs Q E hr h => ?_)
  · obtain ⟨B, M, z, rows, f, n, j, rfl, _⟩ := h; rfl
  obtain ⟨B, M, z, rows, f, n, j, rfl, S, I, hj, hQ⟩ := h
  obtain ⟨dx, ha⟩ := I.me
  refine ⟨_, (pss_one (ps_ret (pe_callTy (k_list K) rfl T.n_list (by decide +kernel) (pa_cons (pe_fldK K (pv 0) rfl) pa_nil)))), ?_⟩
  walk_at "go"
  refine w_fldE (S.ex _ _ ha) TY.cl TY.n3 lk3 ?_
  walk_at "go"
  exact w_listL S (sqL_of (S.get j hj)) fun p H' S' => hQ p H' S'
theorem ok_walkers (T : NamesY mg) (TY : YardT K CY) (G : GloM K CY "walkers" "Yard.walkers" s_Yard_walkers) : CalM P w K mg base CY "walkers" 1 ["self"] (spRead CY CW Yd.k) := by
  refine G.cal (k := 0) sc_Yard_walkers (fun _ _ _ _ _ _ us hl => match us, hl with | [_], _ => rfl) (fun vs H Q E h => ?_) (fun f cdv A outer s H vs Q E hr h => ?_)
  · obtain ⟨B, M, z, rows, f, n, j, rfl, _⟩ := h; rfl
  obtain ⟨B, M, z, rows, f, n, j, rfl, S, I, hj, hQ⟩ := h
  obtain ⟨dx, ha⟩ := I.me
  refine ⟨_, (pss_one (ps_ret (pe_callTy (k_list K) rfl T.n_list (by decide +kernel) (pa_cons (pe_fldK K (pv 0) rfl) pa_nil)))), ?_⟩
  walk_at "go"
  refine w_fldE (S.ex _ _ ha) TY.cl TY.n4 lk4 ?_
  walk_at "go"
  exact w_listL S (sqL_of (S.get j hj)) fun p H' S' => hQ p H' S'
theorem nmD_true {H : Hp} {lo hi : Int} {v : V} (h : NmD H lo hi v true) : ∃ i, v = .int i ∧ lo ≤ i ∧ i ≤ hi := by
  generalize e : true = b at h
  cases h with
  | int i => exact ⟨i, rfl, of_decide_eq_true e.symm⟩
  | oth t h => cases e
theorem nmD_int {H : Hp} {lo hi i : Int} (h0 : lo ≤ i) (h1 : i ≤ hi) : NmD H lo hi (.int i) true := by
  rw [← decide_eq_true (show lo ≤ i ∧ i ≤ hi from ⟨h0, h1⟩)]
  exact .int i
theorem body_put (T : NamesY mg) (TY : YardT K CY) (T_Web : Cls K CW) (R_BadCount : ErrT K mg "BadCount" CC) (XC_Web_check_place : CalMX P w K mg base CW "check_place" 2 ["self", "place"] (spCheckX CW CP)) (C_is_number : Cal P w K mg base "is_number" 2 ["thing", "least", "most"] spNum) : BodyX P w K mg base ["self", "place", "many"] "Yard.put" s_Yard_put 2 (spPut CY CW CP CC) := by
  intro f cdv A outer s H vs Q E hr h
  obtain ⟨B, M, z, rows, y, ra, v, u, b, c, rfl, S, I, hle, hp, hn, hQ, hE1, hE2⟩ := h
  obtain ⟨dx, ha⟩ := I.me
  obtain ⟨dw, tw, hwa, _⟩ := id I.web.ex
  obtain ⟨tm, c_MOST_WALKERS⟩ := T.c_MOST_WALKERS
  refine ⟨_, (pss_cons (ps_expr (pe_calMX (pe_fldK K (pv 0) rfl) T_Web XC_Web_check_place hr (takes_of rfl rfl rfl rfl) (fun _ _ _ _ h => h) (pa_cons (pv 1) pa_nil))) (pss_cons (ps_if (pt_not (pt_val (pe_cal C_is_number hr rfl (pa_cons (pv 2) (pa_cons pe_int (pa_cons (pe_glob (v := .int 1000) rfl c_MOST_WALKERS ⟨_, rfl⟩) pa_nil)))))) (pss_one (ps_raiseE R_BadCount rfl (takes_of rfl rfl rfl rfl) (pe_joined (.cons pe_str (.cons (pe_fmt (pe_glob (v := .int 1000) rfl c_MOST_WALKERS ⟨_, rfl⟩)) .nil))) rfl)) pss_nil) (pss_one (ps_augS (pe_fldK K (pv 0) rfl) (pv 1) (get_list K) (pv 2) ip_add set_list)))), ?_⟩
  walk_at "go"
  refine w_fldE (S.ex _ _ ha) TY.cl TY.n1 lk1 ?_
  refine w_methXE (S.ex _ _ hwa) (look1n (by decide +kernel)) ?_
  walk_at "go"
  refine ⟨z.w, rows, v, b, rfl, I.web.mono S.ex, hp.mono S.ex, fun hb => ?_, fun hb => ⟨hle, hE1 hb _ S⟩⟩
  subst hb
  walk_at "go"
  refine ⟨u, 1, 1000, c, rfl, hn.mono S.ex, ?_⟩
  walk_at "go"
  cases c with
  | true =>
    refine iteF ?_
    obtain ⟨i, rfl, i0, i1⟩ := plD_true hp
    obtain ⟨m, rfl, m0, m1⟩ := nmD_true hn
    obtain ⟨j, rfl⟩ : ∃ j : Nat, i = j := ⟨i.toNat, by omega⟩
    have hj : j < rows.length := by omega
    walk_at "go"
    refine w_fldE (S.ex _ _ ha) TY.cl TY.n4 lk4 ?_
    walk_at "go"
    refine w_augGE (sqL_of (S.get 1)) (by omega) (vec_getV hj) ?_
    walk_at "go"
    refine w_setL S 1 rfl (n := j) (ixN_nat (by simp; omega)) fun H1 S1 => ?_
    rw [vec_setV hj] at S1
    refine hQ rfl rfl j m H1 rfl rfl hj ?_
    exact Hs.ycs (n := rows.length) (z := z) (f := hx rows y.h0 y.x) (g := put1 _ j _) (l := fun i => (y.x i : Nat)) (ra := ra) S1 (fun _ _ => rfl) (fun v _ => (wx_put v).symm) (fun _ _ => rfl)
  | false =>
    refine iteT ?_
    refine w_jsC 0 (Nat.le_refl _) (k := fun acc hacc => ?_)
    refine w_jsF ?_
    walk_at "go"
    refine w_fmtI _ hacc (by decide +kernel) (by decide) fun acc' _ => ?_
    exact hE2 rfl rfl _ S
theorem ok_stepX (T : NamesY mg) (TY : YardT K CY) (T_Yard : Cls K CY) (T_Web : Cls K CW) (R_NoStep : ErrT K mg "NoStep" CN) (G : GloM K CY "step" "Yard.step" s_Yard_step) (XC_Web_is_rest : CalMX P w K mg base CW "is_rest" 3 ["self", "place"] (spIsRestX CW CP)) (C_Yard_pointed : CalM P w K mg base CY "_pointed" 3 ["self", "place"] (spPointed CY CW)) (C_Yard_leave : CalM P w K mg base CY "_leave" 3 ["self", "place", "times"] (spLeave CY CW)) : CalMX P w K mg base CY "step" 4 ["self", "place"] (spStep CY CW CP CN) := by
  refine G.calX (k := 3) sc_Yard_step (fun _ _ _ _ _ _ us hl => match us, hl with | [_, _], _ => rfl) (fun vs H Q E h => ?_) (fun f cdv A outer s H vs Q E hr h => ?_)
  · obtain ⟨B, M, z, rows, y, ra, v, b, rfl, _⟩ := h; rfl
  obtain ⟨B, M, z, rows, y, ra, v, b, rfl, S, I, hv, hp, hQ, hE⟩ := h
  obtain ⟨dx, ha⟩ := I.me
  obtain ⟨dw, tw, hwa, _⟩ := id I.web.ex
  refine ⟨_, (pss_cons (ps_if (pt_val (pe_calMX (pe_fldK K (pv 0) rfl) T_Web XC_Web_is_rest hr (takes_of rfl rfl rfl rfl) (fun _ _ _ _ h => h) (pa_cons (pv 1) pa_nil))) (pss_one (ps_raiseE R_NoStep rfl (takes_of rfl rfl rfl rfl) pe_str rfl)) pss_nil) (pss_cons (ps_if (pt_cmpR op_eq (pe_ix (k_ixL K) (pe_fldK K (pv 0) rfl) (pv 1) (fun _ _ => rfl)) pe_int (nomark _)) (pss_one (ps_raiseE R_NoStep rfl (takes_of rfl rfl rfl rfl) pe_str rfl)) pss_nil) (pss_cons (ps_set (i := 2) sc_Yard_step.nd rfl (Or.inl rfl) (pe_calM (pv 0) T_Yard C_Yard_pointed hr (pa_cons (pv 1) pa_nil))) (pss_cons (ps_expr (pe_calM (pv 0) T_Yard C_Yard_leave hr (pa_cons (pv 1) (pa_cons pe_int pa_nil)))) (pss_one (ps_ret (pv 2))))))), ?_⟩
  walk_at "go"
  refine w_fldE (S.ex _ _ ha) TY.cl TY.n1 lk1 ?_
  refine w_methXE (S.ex _ _ hwa) (look1n (by decide +kernel)) ?_
  walk_at "go"
  refine ⟨z.w, rows, v, b, rfl, I.web.mono S.ex, hp.mono S.ex, fun hb i r ev i0 hr0 => ?_, fun hb => ⟨hv.le, hE hb _ S⟩⟩
  subst hb
  subst ev
  obtain ⟨j, rfl⟩ : ∃ j : Nat, i = j := ⟨i.toNat, by omega⟩
  rw [Int.toNat_natCast] at hr0
  have hj := (List.getElem?_eq_some_iff.mp hr0).1
  rw [rowOf_get hj] at hr0
  cases hr0
  walk_at "go"
  have hz : (rowOf rows j).isEmpty = decide (degOf rows j = 0) := by
    unfold degOf
    cases rowOf rows j <;> simp
  rw [hz]
  refine ite3 (fun h0 => ?_) (fun h0 => ?_)
  · walk_at "go"
    rcases hQ rfl j rfl hj with ⟨_, h⟩ | ⟨h, _⟩
    · exact h _ S
    · omega
  · walk_at "go"
    refine w_fldE (S.ex _ _ ha) TY.cl TY.n4 lk4 ?_
    walk_at "go"
    refine w_ixL (sqL_of (S.get 1)) (atI_nat (vec_getV hj)) ?_
    walk_at "go"
    refine w_eqS rfl ?_
    walk_at "go"
    refine ite3 (fun h1 => ?_) (fun h1 => ?_)
    · walk_at "go"
      rcases hQ rfl j rfl hj with ⟨_, h⟩ | ⟨_, h, _⟩
      · exact h _ S
      · exact absurd (V.int.inj h1) h
    · rcases hQ rfl j rfl hj with ⟨h, _⟩ | ⟨hd, _, hra, hQ⟩
      · rcases h with h | h
        · exact absurd h h0
        · exact absurd (by rw [h]) h1
      have hr := hx_range (rows := rows) (h0 := y.h0) (x := y.x) hd
      walk_at "go"
      refine w_methE (S.ex _ _ ha) (lk0 (by decide +kernel) (by decide +kernel) (by decide +kernel) (by decide +kernel) (by decide +kernel) (by decide +kernel)) ?_
      walk_at "go"
      refine ⟨B, _, z, rows, _, j, _, rfl, S, I, hj, hr.1, ptx_get hd, ?_⟩
      walk_at "go"
      refine w_methE (S.ex _ _ ha) (lk0 (by decide +kernel) (by decide +kernel) (by decide +kernel) (by decide +kernel) (by decide +kernel) (by decide +kernel)) ?_
      walk_at "go"
      refine ⟨B, M, z, rows, _, _, _, ra, j, 1, rfl, S, I, hv, hj, hd, hr.1, hr.2, hra, fun B' tp H' e htp S' => ?_⟩
      walk_at "go"
      exact hQ B' tp H' e htp (S'.leave hj)
theorem ok_backX (T : NamesY mg) (TY : YardT K CY) (T_Yard : Cls K CY) (R_NoStep : ErrT K mg "NoStep" CN) (G : GloM K CY "back" "Yard.back" s_Yard_back) (C_Yard_turn : CalM P w K mg base CY "_turn" 1 ["self", "place", "times"] (spTurn CY CW)) (C_Yard_pointed : CalM P w K mg base CY "_pointed" 1 ["self", "place"] (spPointed CY CW)) : CalMX P w K mg base CY "back" 2 ["self"] (spBack CY CW CN) := by
  refine G.calX (k := 1) sc_Yard_back (fun _ _ _ _ _ _ us hl => match us, hl with | [_], _ => rfl) (fun vs H Q E h => ?_) (fun f cdv A outer s H vs Q E hr h => ?_)
  · obtain ⟨B, M, z, rows, y, ra, rfl, _⟩ := h; rfl
  obtain ⟨B, M, z, rows, y, ra, rfl, S, I, hv, ok, hR, hra, hQ⟩ := h
  obtain ⟨dx, ha⟩ := I.me
  have hral := hR.length
  refine ⟨_, (pss_cons (ps_if (pt_not (pt_truthK K (pe_fldK K (pv 0) rfl) (by intro _; rfl))) (pss_one (ps_raiseE R_NoStep rfl (takes_of rfl rfl rfl rfl) pe_str rfl)) pss_nil) (pss_cons (ps_asg (pe_bm0K K PySem.F.plainAttrs_list PySem.F.slot_list_pop PySem.F.type_list_pop mt_pop (pe_fldK K (pv 0) rfl)) (pg_tupK (n := 2) K rfl (pgs_cons (pg_name (i := 1) sc_Yard_back.nd rfl (Or.inl rfl)) (pgs_cons (pg_name (i := 2) sc_Yard_back.nd rfl (Or.inl rfl)) pgs_nil)))) (pss_cons (ps_if (pt_cmpR op_gt (pv 2) pe_int (nomark _)) (pss_one (ps_expr (pe_bmK K PySem.F.plainAttrs_list PySem.F.slot_list_append PySem.F.type_list_append mt_append (pe_fldK K (pv 0) rfl) (pa_cons (pe_tup (pa_cons (pv 1) (pa_cons (pe_op op_sub (pv 2) pe_int) pa_nil))) pa_nil)))) pss_nil) (pss_cons (ps_expr (pe_calM (pv 0) T_Yard C_Yard_turn hr (pa_cons (pv 1) (pa_cons (pe_un un_neg pe_int) pa_nil)))) (pss_cons (ps_set (i := 3) sc_Yard_back.nd rfl (Or.inl rfl) (pe_calM (pv 0) T_Yard C_Yard_pointed hr (pa_cons (pv 1) pa_nil))) (pss_cons (ps_augS (pe_fldK K (pv 0) rfl) (pv 3) (get_list K) pe_int ip_sub set_list) (pss_cons (ps_augS (pe_fldK K (pv 0) rfl) (pv 1) (get_list K) pe_int ip_add set_list) (pss_cons (ps_augS (pe_fldK K (pv 0) rfl) (pv 1) (get_list K) pe_int ip_sub set_list) (pss_one (ps_ret (pe_tup (pa_cons (pv 1) (pa_cons (pv 3) pa_nil))))))))))))), ?_⟩
  walk_at "go"
  refine w_fldE (S.ex _ _ ha) TY.cl TY.n6 lk6 ?_
  refine w_truL (sqL_of (S.get 3)) ?_
  rcases hQ with ⟨h0, hE⟩ | ⟨rs, i, t, ers, hQ⟩
  · have hra0 : ra = [] := List.length_eq_zero_iff.mp (by rw [hral, h0]; rfl)
    subst hra0
    refine iteT ?_
    walk_at "go"
    exact hE _ S
  rw [ers] at hR
  obtain ⟨ra', tp, rfl, hR', htp⟩ := hR.last
  obtain ⟨hi, hd, ht⟩ := ok.rr (i, t) (by rw [ers]; simp)
  dsimp only at hi hd ht
  rw [show (!!(List.map V.ref (ra' ++ [tp])).isEmpty) = false by simp]
  refine iteF ?_
  walk_at "go"
  refine w_fldE (S.ex _ _ ha) TY.cl TY.n6 lk6 ?_
  refine ⟨tyL (sqL_of (S.get 3)), ?_⟩
  refine w_pop S 3 rfl (y := .ref tp) (by simp) fun H1 S1 => ?_
  have e4 : (List.map V.ref (ra' ++ [tp])).dropLast = ra'.map V.ref := by rw [List.map_append]; simp
  rw [e4] at S1
  refine w_gtup (sqT_of (S1.ex _ _ htp)) rfl ?_
  walk_at "go"
  suffices hk : ∀ (B1 : Hp) (H1 : Hp) (ra1 : List Addr), Same B B1 → RunsB B1 ra1 (lastOff rs i t) → Hs B1 (ycs rows.length z (hx rows y.h0 y.x) (wx rows y.h0 y.p y.x) (fun i => (y.x i : Nat)) ra1 ++ M) H1 →
      tSeq (tDrop (tMeth CY "_turn" (spTurn CY CW) [] E0 (tVar 0) (tCons (tVar 1) (tCons (tUn (rU fun i => .int (-i)) (tC (.int 1))) tNil)))) _ { nx := fun _ H' => Q .non H', rt := Q } [some (.ref z.a), some (.int i), some (.int t), none] H1 by
    refine ite3 (fun h1 => ?_) (fun h1 => ?_)
    · walk_at "go"
      refine w_fldE (S1.ex _ _ ha) TY.cl TY.n6 lk6 ?_
      walk_at "go"
      refine ⟨tyL (sqL_of (S1.get 3)), ?_⟩
      walk_at "go"
      refine w_tup S1 (len_ok (by simp)) fun tp2 H2 S2 => ?_
      walk_at "go"
      refine w_append S2 4 rfl (by rw [List.length_map]; exact small (m := 16000000) (by simp at hra; omega)) fun H3 S3 => ?_
      obtain ⟨B4, e4, htp2, S4⟩ := S3.shut 0
      refine hk B4 H3 (ra' ++ [tp2]) e4 ?_ ?_
      · unfold lastOff
        rw [if_pos (by omega)]
        refine (hR'.mono e4).snoc ?_
        rw [htp2]
        show some (HO.tup [.int i, .int ((t : Int) - 1)]) = some (HO.tup [.int i, .int ((t - 1 : Nat) : Int)])
        rw [show ((t - 1 : Nat) : Int) = (t : Int) - 1 by omega]
      · unfold Rw.ycs
        rw [List.map_append]
        exact S4
    · refine hk B H1 ra' (Same.refl _) ?_ S1
      unfold lastOff
      rw [if_neg (by omega)]
      exact hR'
  intro B1 H1 ra1 e1 hR1 S1
  have I1 := I.mono e1
  have ha1 := e1 _ _ ha
  have hup := lastOff_up (rs := rs) (i := i) ht
  rw [← ers] at hup
  have eyx : y.x = up (xsum (lastOff rs i t)) i 1 := hup.symm
  generalize hxx : xsum (lastOff rs i t) = x' at eyx hQ
  have hr' := hx_range (rows := rows) (h0 := y.h0) (x := x') hd
  have eh : ∀ v, put1 (hx rows y.h0 y.x) i ((hx rows y.h0 y.x i + -1) % (degOf rows i : Nat)) v = hx rows y.h0 x' v := fun v => by
    rw [eyx, hx_up]
    by_cases h : v = i
    · subst h
      rw [put1_same, put1_same]
      rw [Int.emod_add_emod]
      unfold hx
      rw [show (y.h0 v + x' v) % (degOf rows v : Nat) + ((1 : Nat) : Int) + -1 = (y.h0 v + x' v) % (degOf rows v : Nat) by omega, Int.emod_emod_of_dvd _ (Int.dvd_refl _)]
    · rw [put1_ne h, put1_ne h]
  obtain ⟨k, ek, hk⟩ := row_pos hv hi (ptx_get (h0 := y.h0) (x := x') hd)
  walk_at "go"
  refine w_methE (S1.ex _ _ ha1) (lk0 (by decide +kernel) (by decide +kernel) (by decide +kernel) (by decide +kernel) (by decide +kernel) (by decide +kernel)) ?_
  walk_at "go"
  refine ⟨B1, _, z, rows, _, i, -1, rfl, S1, I1, hi, hd, fun H2 S2 => ?_⟩
  have S2 : Hs B1 (ycs rows.length z (hx rows y.h0 x') (wx rows y.h0 y.p y.x) (fun i => (y.x i : Nat)) ra1 ++ M) H2 := Hs.ycs (n := rows.length) (z := z) (f := put1 (hx rows y.h0 y.x) i ((hx rows y.h0 y.x i + -1) % (degOf rows i : Nat))) (g := wx rows y.h0 y.p y.x) (l := fun i => (y.x i : Nat)) (ra := ra1) S2 (fun v _ => eh v) (fun _ _ => rfl) (fun _ _ => rfl)
  walk_at "go"
  refine w_methE (S2.ex _ _ ha1) (lk0 (by decide +kernel) (by decide +kernel) (by decide +kernel) (by decide +kernel) (by decide +kernel) (by decide +kernel)) ?_
  walk_at "go"
  refine ⟨B1, _, z, rows, _, i, _, rfl, S2, I1, hi, hr'.1, ptx_get hd, ?_⟩
  rw [ek] at hQ ⊢
  walk_at "go"
  refine w_fldE (S2.ex _ _ ha1) TY.cl TY.n4 lk4 ?_
  walk_at "go"
  refine w_augGE (sqL_of (S2.get 1)) (by omega) (vec_getV (i := k) hk) ?_
  walk_at "go"
  refine w_setL S2 1 rfl (n := k) (ixN_nat (by simp; omega)) fun H3 S3 => ?_
  rw [vec_setV hk] at S3
  walk_at "go"
  refine w_fldE (S3.ex _ _ ha1) TY.cl TY.n4 lk4 ?_
  walk_at "go"
  refine w_augGE (sqL_of (S3.get 1)) (by omega) (vec_getV (i := i) hi) ?_
  walk_at "go"
  refine w_setL S3 1 rfl (n := i) (ixN_nat (by simp; omega)) fun H4 S4 => ?_
  rw [vec_setV hi] at S4
  walk_at "go"
  refine w_fldE (S4.ex _ _ ha1) TY.cl TY.n5 lk5 ?_
  walk_at "go"
  refine w_augGE (sqL_of (S4.get 2)) (by omega) (vec_getV (i := i) hi) ?_
  walk_at "go"
  refine w_setL S4 2 rfl (n := i) (ixN_nat (by simp; omega)) fun H5 S5 => ?_
  rw [vec_setV hi] at S5
  walk_at "go"
  refine w_tup S5 (len_ok (by simp)) fun tq H6 S6 => ?_
  obtain ⟨B7, e7, htq, S7⟩ := S6.shut 0
  refine hQ B7 tq ra1 H6 (e1.trans e7) htq (hR1.mono e7) ?_
  refine Hs.ycs (n := rows.length) (z := z) (f := hx rows y.h0 x') (g := put1 (put1 _ k _) i _) (l := put1 _ i _) (ra := ra1) S7 (fun v _ => ?_) (fun v _ => ?_) (fun v _ => ?_)
  · show _ = hx rows y.h0 (xsum (lastOff rs i t)) v
    rw [hxx]
  · show _ = wx rows y.h0 y.p (xsum (lastOff rs i t)) v
    rw [hxx, eyx]
    have hw : ∀ u : Nat, wx rows y.h0 y.p (up x' i 1) u = wx rows y.h0 y.p x' u - (if u = i then 1 else 0) + (if (k : Int) = u then 1 else 0) := fun u => by
      rw [wx_up1 hi, ek]
    unfold put1
    rw [hw]
    by_cases h : v = i
    · subst h
      by_cases h2 : v = k
      · subst h2; simp [hw]
      · have h2' : ¬ (k : Int) = (v : Int) := fun e => h2 (by omega)
        simp [h2, h2', hw]
    · by_cases h2 : v = k
      · subst h2; simp [h, hw]
      · have h2' : ¬ (k : Int) = (v : Int) := fun e => h2 (by omega)
        simp [h, h2, h2', hw]
  · show _ = ((xsum (lastOff rs i t) v : Nat) : Int)
    rw [hxx, eyx]
    unfold put1 up
    by_cases h : v = i
    · subst h; simp
    · simp [h]
end
end Rw

namespace Rw
open PySem PySem.Spec PyProof.Rows L2
/-! ### more sums -/
theorem sumN_pos {f : Nat → Int} : ∀ {n j : Nat}, j < n → (∀ i, i < n → 0 ≤ f i) → f j ≤ sumN n f
  | 0, j, h, _ => absurd h (Nat.not_lt_zero _)
  | n + 1, j, h, h0 => by
    show f j ≤ sumN n f + f n
    have hn := h0 n (Nat.lt_succ_self n)
    by_cases e : j = n
    · subst e
      have : 0 ≤ sumN j f := by
        have := sumN_le (f := fun _ => 0) (g := f) (n := j) fun i hi => h0 i (Nat.lt_succ_of_lt hi)
        rw [sumN_zero] at this
        exact this
      omega
    · have := sumN_pos (n := n) (j := j) (by omega) fun i hi => h0 i (Nat.lt_succ_of_lt hi)
      omega
theorem sumN_nn {f : Nat → Int} {n : Nat} (h : ∀ i, i < n → 0 ≤ f i) : 0 ≤ sumN n f := by
  have := sumN_le (f := fun _ => 0) (g := f) (n := n) h
  rw [sumN_zero] at this
  exact this
theorem sumN_lt {f g : Nat → Int} : ∀ {n j : Nat}, j < n → (∀ i, i < n → f i ≤ g i) → f j < g j → sumN n f < sumN n g
  | 0, j, h, _, _ => absurd h (Nat.not_lt_zero _)
  | n + 1, j, h, h1, h2 => by
    show sumN n f + f n < sumN n g + g n
    by_cases e : j = n
    · subst e
      have := sumN_le (n := j) fun i hi => h1 i (Nat.lt_succ_of_lt hi)
      omega
    · have := sumN_lt (n := n) (j := j) (by omega) (fun i hi => h1 i (Nat.lt_succ_of_lt hi)) h2
      have := h1 n (Nat.lt_succ_self n)
      omega
theorem sumN_if {n : Nat} {k : Nat} (h : k < n) : sumN n (fun v => if (k : Int) = (v : Int) then 1 else 0) = 1 := by
  have := sumN_one (f := fun _ => 0) (g := fun v => if (k : Int) = (v : Int) then 1 else 0) (j := k) (d := 1) (n := n) h (fun i hi => by
    show (if (k : Int) = (i : Int) then (1 : Int) else 0) = 0
    rw [if_neg (by omega)]) (by simp)
  rw [this, sumN_zero]
  rfl
/-! ### arrivals -/
section
variable {r : List Int} {h : Int} {v : Int}
theorem arr_mono {m m' : Nat} (e : m ≤ m') : arr r h m v ≤ arr r h m' v := by
  have := arr_add r h m v (m' - m)
  rw [Nat.add_sub_cancel' e] at this
  have := arr_nn r (h + m) v (m' - m)
  omega
theorem arr_mem : ∀ {m : Nat}, 0 < arr r h m v → 0 < r.length → v ∈ r
  | 0, e, _ => absurd e (by show ¬ (0 : Int) < 0; decide)
  | m + 1, e, hl => by
    have e : 0 < arr r h m v + (if r.getD ((h + m) % r.length).toNat (-1) = v then 1 else 0) := e
    by_cases c : r.getD ((h + m) % r.length).toNat (-1) = v
    · have b0 := Int.emod_nonneg (h + m) (show (r.length : Int) ≠ 0 by omega)
      have b1 := Int.emod_lt_of_pos (h + m) (show (0 : Int) < r.length by omega)
      have hx : ((h + m) % (r.length : Int)).toNat < r.length := by omega
      rw [List.getD_eq_getElem?_getD, List.getElem?_eq_getElem hx] at c
      rw [← c]
      exact List.getElem_mem hx
    · rw [if_neg c] at e
      exact arr_mem (m := m) (by omega) hl
/-- all of them come to places -/
theorem arr_sum {n : Nat} (hl : 0 < r.length) (hr : ∀ x ∈ r, 0 ≤ x ∧ x < (n : Int)) : ∀ m : Nat, sumN n (fun v => arr r h m (v : Int)) = m
  | 0 => sumN_zero n
  | m + 1 => by
    have b0 := Int.emod_nonneg (h + m) (show (r.length : Int) ≠ 0 by omega)
    have b1 := Int.emod_lt_of_pos (h + m) (show (0 : Int) < r.length by omega)
    have hx : ((h + m) % (r.length : Int)).toNat < r.length := by omega
    have hg : r.getD ((h + m) % (r.length : Int)).toNat (-1) = r[((h + m) % (r.length : Int)).toNat] := by
      rw [List.getD_eq_getElem?_getD, List.getElem?_eq_getElem hx]; rfl
    have hm := hr _ (List.getElem_mem hx)
    obtain ⟨k, ek⟩ : ∃ k : Nat, r.getD ((h + m) % (r.length : Int)).toNat (-1) = k := ⟨(r.getD ((h + m) % (r.length : Int)).toNat (-1)).toNat, by rw [hg]; omega⟩
    have e : sumN n (fun v => arr r h (m + 1) (v : Int)) = sumN n (fun v => arr r h m (v : Int)) + sumN n (fun v => if (k : Int) = (v : Int) then 1 else 0) := by
      rw [← sumN_add]
      refine sumN_congr fun i _ => ?_
      show arr r h m i + (if r.getD ((h + m) % r.length).toNat (-1) = (i : Int) then 1 else 0) = _
      rw [ek]
    rw [e, arr_sum hl hr m, sumN_if (by rw [hg] at ek; omega)]
    omega
theorem arr_low (h0 : 0 ≤ h) (hl : r.length ≤ 3) (hv : v ∈ r) (m : Nat) : (m : Int) ≤ 3 * arr r h m v + 2 := by
  have hp : 0 < r.length := List.length_pos_of_mem hv
  have e := arr_rounds r v h h0 (m / r.length) (m % r.length)
  rw [Nat.mul_comm, Nat.div_add_mod] at e
  have c1 : 1 ≤ r.count v := List.count_pos_iff.mpr hv
  have a0 := arr_nn r h v (m % r.length)
  have q1 : ((m / r.length : Nat) : Int) ≤ ((m / r.length : Nat) : Int) * (r.count v : Nat) := by
    have : ((m / r.length : Nat) : Int) * 1 ≤ ((m / r.length : Nat) : Int) * (r.count v : Nat) := Int.mul_le_mul_of_nonneg_left (by omega) (Int.natCast_nonneg _)
    omega
  have q2 : m < (m / r.length + 1) * r.length := by
    have := Nat.div_add_mod m r.length
    have := Nat.mod_lt m hp
    rw [Nat.add_mul, Nat.mul_comm]
    omega
  have q3 : (m / r.length + 1) * r.length ≤ (m / r.length + 1) * 3 := Nat.mul_le_mul_left _ hl
  omega
end
/-! ### settling -/
def Lv (rows : List (List Int)) (p : Nat → Int) (v : Nat) : Prop := ∃ a : Nat, a < rows.length ∧ 0 < p a ∧ Rch rows (a : Int) (v : Int)
/-- from each place to which one comes one comes to a rest -/
def EndsP (rows : List (List Int)) (p : Nat → Int) : Prop := ∀ v : Nat, v < rows.length → Lv rows p v → ∃ r : Nat, r < rows.length ∧ degOf rows r = 0 ∧ Rch rows (v : Int) (r : Int)
/-- what may come of steps, whoever steps -/
inductive Lg (rows : List (List Int)) (h0 p : Nat → Int) : (Nat → Nat) → Prop where
  | zero : Lg rows h0 p (fun _ => 0)
  | more {x : Nat → Nat} {i t : Nat} (h : Lg rows h0 p x) (hi : i < rows.length) (hd : 0 < degOf rows i) (ht : (t : Int) ≤ wx rows h0 p x i) : Lg rows h0 p (up x i t)
def Still (rows : List (List Int)) (h0 p : Nat → Int) (x : Nat → Nat) : Prop := ∀ v, v < rows.length → 0 < degOf rows v → wx rows h0 p x v ≤ 0
section
variable {rows : List (List Int)} {h0 p p' : Nat → Int} {x u : Nat → Nat} {i t v : Nat}
theorem row_in (hv : Valid rows) (hi : i < rows.length) : ∀ c ∈ rowOf rows i, 0 ≤ c ∧ c < (rows.length : Int) := (hv.row _ (List.mem_of_getElem? (rowOf_get hi))).2
theorem wx_le (h : ∀ v, v < rows.length → x v ≤ u v) : wx rows h0 p x v + x v ≤ wx rows h0 p u v + u v := by
  unfold wx
  have := sumN_le (f := fun w => arr (rowOf rows w) (h0 w) (x w) v) (g := fun w => arr (rowOf rows w) (h0 w) (u w) v) (n := rows.length) fun w hw => arr_mono (h w hw)
  omega
/-- the least -/
theorem Lg.le (h : Lg rows h0 p x) (hs : Still rows h0 p u) : ∀ v, v < rows.length → x v ≤ u v := by
  induction h with
  | zero => intro v _; exact Nat.zero_le _
  | @more x i t h hi hd ht ih =>
    intro v hv
    by_cases e : v = i
    · subst e
      rw [up_same]
      have a := wx_le (h0 := h0) (p := p) (v := v) ih
      have b := hs v hv hd
      omega
    · rw [up_ne e]
      exact ih v hv
theorem Lg.off (h : Lg rows h0 p x) : ∀ v, degOf rows v = 0 → x v = 0 := by
  induction h with
  | zero => intro v _; rfl
  | @more x i t h hi hd ht ih =>
    intro v hv
    rw [up_ne (fun e => by subst e; omega)]
    exact ih v hv
theorem Lg.one (h : Lg rows h0 p x) (h' : Lg rows h0 p u) (hs : Still rows h0 p x) (hs' : Still rows h0 p u) : ∀ v, v < rows.length → x v = u v := fun v hv => Nat.le_antisymm (h.le hs' v hv) (h'.le hs v hv)
theorem wx_p : wx rows h0 p' x v = wx rows h0 p x v + (p' v - p v) := by unfold wx; omega
theorem Lg.grow (h : Lg rows h0 p x) (hp : ∀ v, v < rows.length → p v ≤ p' v) : Lg rows h0 p' x := by
  induction h with
  | zero => exact .zero
  | more h hi hd ht ih =>
    refine .more ih hi hd ?_
    have := hp _ hi
    rw [wx_p (p := p)]
    omega
theorem Lg.nn (h : Lg rows h0 p x) (hp : ∀ v, v < rows.length → 0 ≤ p v) : ∀ v, v < rows.length → 0 ≤ wx rows h0 p x v := by
  induction h with
  | zero => intro v hv; rw [wx_zero]; exact hp v hv
  | @more x i t h hi hd ht ih =>
    intro v hv
    rw [wx_up hi]
    have := arr_nn (rowOf rows i) (hx rows h0 x i) v t
    have := ih v hv
    split
    · rename_i e
      subst e
      omega
    · omega
theorem Lg.sum (hV : Valid rows) (h : Lg rows h0 p x) : sumN rows.length (wx rows h0 p x) = sumN rows.length p := by
  induction h with
  | zero => exact sumN_congr fun v _ => wx_zero
  | @more x i t h hi hd ht ih =>
    rw [← ih]
    have e : sumN rows.length (wx rows h0 p (up x i t)) = sumN rows.length (fun v => put1 (wx rows h0 p x) i (wx rows h0 p x i - t) v + arr (rowOf rows i) (hx rows h0 x i) t v) := sumN_congr fun v _ => by
      rw [wx_up hi]
      unfold put1
      split
      · rename_i e; rw [e]
      · omega
    rw [e, sumN_add, arr_sum hd (row_in hV hi), sumN_one (f := wx rows h0 p x) (g := put1 (wx rows h0 p x) i (wx rows h0 p x i - t)) (j := i) (d := -t) hi (fun j hj => put1_ne hj) (by rw [put1_same]; omega)]
    omega
theorem Rch.more {a b : Int} {c : Int} {k : Nat} (h : Rch rows a (k : Int)) (hk : k < rows.length) (hc : c ∈ rowOf rows k) : Rch rows a c := .step h (by omega) (by rw [Int.toNat_natCast]; exact rowOf_get hk) hc
theorem Lg.lv (hV : Valid rows) (h : Lg rows h0 p x) (hp : ∀ v, v < rows.length → 0 ≤ p v) : ∀ v, v < rows.length → 0 < wx rows h0 p x v → Lv rows p v := by
  induction h with
  | zero =>
    intro v hv h0
    rw [wx_zero] at h0
    exact ⟨v, hv, h0, .refl⟩
  | @more x i t h hi hd ht ih =>
    intro v hv h1
    rw [wx_up hi] at h1
    by_cases hw : 0 < wx rows h0 p x v
    · exact ih v hv hw
    · have ha : 0 < arr (rowOf rows i) (hx rows h0 x i) t v := by
        split at h1 <;> omega
      have ht0 : 0 < t := by
        cases t with
        | zero => exact absurd ha (by show ¬ (0 : Int) < 0; decide)
        | succ t => omega
      obtain ⟨a, a1, a2, a3⟩ := ih i hi (by omega)
      exact ⟨a, a1, a2, Rch.more (b := 0) a3 hi (arr_mem ha hd)⟩
/-! ### how near a rest is -/
def near (rows : List (List Int)) : Nat → Nat → Bool
  | 0, v => decide (degOf rows v = 0)
  | k + 1, v => near rows k v || (rowOf rows v).any fun c => near rows k c.toNat
theorem near_up {k : Nat} (h : near rows k v = true) : near rows (k + 1) v = true := by
  show (near rows k v || _) = true
  rw [h]; rfl
theorem near_le {k k' : Nat} (e : k ≤ k') (h : near rows k v = true) : near rows k' v = true := by
  induction e with
  | refl => exact h
  | step _ ih => exact near_up ih
def nearN (rows : List (List Int)) (k : Nat) : Int := sumN rows.length fun v => if near rows k v then 1 else 0
theorem near_all (rows : List (List Int)) : ∃ j, j ≤ rows.length ∧ ∀ v, v < rows.length → near rows (j + 1) v = true → near rows j v = true := by
  refine Classical.byContradiction fun hc => ?_
  have hg : ∀ k, k ≤ rows.length + 1 → (k : Int) ≤ nearN rows k := by
    intro k
    induction k with
    | zero =>
      intro _
      unfold nearN
      exact sumN_nn fun i _ => by split <;> omega
    | succ k ih =>
      intro hk
      have h1 := ih (by omega)
      have hex : ∃ v, v < rows.length ∧ near rows (k + 1) v = true ∧ ¬ near rows k v = true := by
        refine Classical.byContradiction fun hn => hc ⟨k, by omega, fun v hv h => Classical.byContradiction fun hq => hn ⟨v, hv, h, hq⟩⟩
      obtain ⟨v, hv, v1, v2⟩ := hex
      have : nearN rows k < nearN rows (k + 1) := by
        unfold nearN
        refine sumN_lt (j := v) hv (fun i _ => ?_) ?_
        · by_cases q : near rows k i = true
          · rw [if_pos q, if_pos (near_up q)]; exact Int.le_refl _
          · rw [if_neg q]; split <;> omega
        · rw [if_neg v2, if_pos v1]; decide
      omega
  have a := hg (rows.length + 1) (Nat.le_refl _)
  have b : nearN rows (rows.length + 1) ≤ rows.length := by
    unfold nearN
    have := sumN_le (f := fun v => if near rows (rows.length + 1) v then (1 : Int) else 0) (g := fun _ => 1) (n := rows.length) fun i _ => by split <;> omega
    rw [sumN_const] at this
    omega
  omega
theorem near_of (hV : Valid rows) {a r : Int} (h : Rch rows a r) (ha : 0 ≤ a ∧ a < (rows.length : Int)) (hr : degOf rows r.toNat = 0) : near rows rows.length a.toNat = true := by
  obtain ⟨j, hj, hc⟩ := near_all rows
  have key : ∀ {c : Int}, Rch rows a c → near rows j c.toNat = true → near rows j a.toNat = true := by
    intro c hR
    induction hR with
    | refl => exact fun h => h
    | @step b c r h1 h2 h3 h4 ih =>
      intro hn
      have hb := h1.range hV ha
      have hr : r = rowOf rows b.toNat := by
        have := rowOf_get (rows := rows) (i := b.toNat) (by omega)
        rw [h3] at this
        exact Option.some.inj this
      refine ih (hc _ (by omega) ?_)
      show (near rows j b.toNat || (rowOf rows b.toNat).any fun c => near rows j c.toNat) = true
      rw [Bool.or_eq_true]
      exact .inr (List.any_eq_true.mpr ⟨c, hr ▸ h4, hn⟩)
  exact near_le hj (key h (near_le (Nat.zero_le _) (decide_eq_true hr)))
/-- so many steps at most from one place -/
def most (W : Int) : Nat → Int
  | 0 => 0
  | k + 1 => 3 * (W + most W k) + 2
theorem most_up {W : Int} (h : 0 ≤ W) : ∀ k, 0 ≤ most W k ∧ most W k ≤ most W (k + 1)
  | 0 => by
    show (0 : Int) ≤ 0 ∧ (0 : Int) ≤ 3 * (W + 0) + 2
    omega
  | k + 1 => by
    have := most_up h k
    show 0 ≤ 3 * (W + most W k) + 2 ∧ 3 * (W + most W k) + 2 ≤ 3 * (W + most W (k + 1)) + 2
    omega
theorem Lg.few (hV : Valid rows) (hh : Hands rows h0) (h : Lg rows h0 p x) (hp : ∀ v, v < rows.length → 0 ≤ p v) : ∀ (k v : Nat), v < rows.length → near rows k v = true → (x v : Int) ≤ most (sumN rows.length p) k
  | 0, v, hv, hn => by
    rw [h.off v (of_decide_eq_true hn)]
    exact Int.le_refl _
  | k + 1, v, hv, hn => by
    have hW := sumN_nn hp
    have hn : (near rows k v || (rowOf rows v).any fun c => near rows k c.toNat) = true := hn
    rw [Bool.or_eq_true] at hn
    rcases hn with hn | hn
    · have := h.few hV hh hp k v hv hn
      have := (most_up hW k).2
      omega
    · obtain ⟨c, hc, hk⟩ := List.any_eq_true.mp hn
      have hcr := row_in hV hv c hc
      obtain ⟨w, rfl⟩ : ∃ w : Nat, c = w := ⟨c.toNat, by omega⟩
      rw [Int.toNat_natCast] at hk
      have hw : w < rows.length := by omega
      have a1 := h.few hV hh hp k w hw hk
      have a2 := arr_low (h := h0 v) (hh v hv).1 (hV.row _ (List.mem_of_getElem? (rowOf_get hv))).1 hc (x v)
      have a3 := sumN_pos (f := fun u => arr (rowOf rows u) (h0 u) (x u) (w : Int)) hv fun i _ => arr_nn _ _ _ _
      have a4 := sumN_pos (f := wx rows h0 p x) hw (h.nn hp)
      rw [h.sum hV] at a4
      have a5 : wx rows h0 p x w = p w + sumN rows.length (fun u => arr (rowOf rows u) (h0 u) (x u) (w : Int)) - x w := rfl
      have a6 := hp w hw
      show (x v : Int) ≤ 3 * (sumN rows.length p + most (sumN rows.length p) k) + 2
      have a3 : arr (rowOf rows v) (h0 v) (x v) (w : Int) ≤ sumN rows.length (fun u => arr (rowOf rows u) (h0 u) (x u) (w : Int)) := a3
      omega
/-- so many in all -/
theorem Lg.total (hV : Valid rows) (hh : Hands rows h0) (h : Lg rows h0 p x) (hp : ∀ v, v < rows.length → 0 ≤ p v) (he : EndsP rows p) : sumN rows.length (fun v => (x v : Int)) ≤ most (sumN rows.length p) rows.length * rows.length := by
  rw [← sumN_const]
  refine sumN_le fun v hv => ?_
  have hW := sumN_nn hp
  by_cases h0' : x v = 0
  · rw [h0']
    exact (most_up hW _).1
  · have hl : Lv rows p v := by
      clear he
      induction h with
      | zero => exact absurd rfl h0'
      | @more x i t h hi hd ht ih =>
        by_cases e : v = i
        · subst e
          by_cases hx0 : x v = 0
          · rw [up_same, hx0] at h0'
            exact h.lv hV hp v hv (by omega)
          · exact ih hx0
        · rw [up_ne e] at h0'
          exact ih h0'
    obtain ⟨r, r1, r2, r3⟩ := he v hv hl
    have hn := near_of hV r3 ⟨by omega, by omega⟩ (by rw [Int.toNat_natCast]; exact r2)
    rw [Int.toNat_natCast] at hn
    exact h.few hV hh hp _ v hv hn
end
/-- the steps kept are none too many -/
theorem runs_few {rows : List (List Int)} : ∀ {rs : List (Nat × Nat)}, (∀ q ∈ rs, q.1 < rows.length ∧ 0 < degOf rows q.1 ∧ 1 ≤ q.2) → (rs.length : Int) ≤ sumN rows.length (fun v => (xsum rs v : Int))
  | [], _ => by
    show (0 : Int) ≤ sumN rows.length (fun _ => 0)
    rw [sumN_zero]; exact Int.le_refl _
  | q :: rs, h => by
    have hq := h q List.mem_cons_self
    have ih := runs_few (rows := rows) (rs := rs) fun p hp => h p (List.mem_cons_of_mem _ hp)
    have e := sumN_one (f := fun v => (xsum rs v : Int)) (g := fun v => (xsum (q :: rs) v : Int)) (j := q.1) (d := q.2) hq.1 (fun i hi => by
      show (((if i = q.1 then q.2 else 0) + xsum rs i : Nat) : Int) = _
      rw [if_neg hi]; simp) (by
      show (((if q.1 = q.1 then q.2 else 0) + xsum rs q.1 : Nat) : Int) = _
      rw [if_pos rfl]; omega)
    rw [e]
    simp only [List.length_cons]
    omega
end Rw

namespace Rw
open PySem PySem.Spec PyProof.Rows L2
/-! ### one walker -/
/-- one walker from s: where it is, how often each place was left -/
def wk (rows : List (List Int)) (h0 : Nat → Int) (s : Nat) : Nat → Nat × (Nat → Nat)
  | 0 => (s, fun _ => 0)
  | t + 1 => ((ptx rows h0 (wk rows h0 s t).2 (wk rows h0 s t).1).toNat, up (wk rows h0 s t).2 (wk rows h0 s t).1 1)
def pos (rows : List (List Int)) (h0 : Nat → Int) (s t : Nat) : Nat := (wk rows h0 s t).1
def odo (rows : List (List Int)) (h0 : Nat → Int) (s t : Nat) : Nat → Nat := (wk rows h0 s t).2
def one (s : Nat) : Nat → Int := fun v => if v = s then 1 else 0
/-- a web without rests -/
def Live (rows : List (List Int)) : Prop := ∀ v, v < rows.length → 0 < degOf rows v
/-- as many ways in as out -/
def Bal (rows : List (List Int)) : Prop := ∀ v, v < rows.length → sumN rows.length (fun u => (((rowOf rows u).count (v : Int) : Nat) : Int)) = degOf rows v
/-- from each place to each other one -/
def JoinedN (rows : List (List Int)) : Prop := ∀ u v : Nat, u < rows.length → v < rows.length → Rch rows (u : Int) (v : Int)
/-- how many ways -/
def ways (rows : List (List Int)) : Int := sumN rows.length (fun v => (degOf rows v : Int))
section
variable {rows : List (List Int)} {h0 : Nat → Int} {s : Nat}
theorem hx_def {x : Nat → Nat} {i : Nat} : hx rows h0 x i = (h0 i + x i) % (degOf rows i : Nat) := rfl
theorem ptx_nat (hv : Valid rows) (hl : Live rows) {x : Nat → Nat} {i : Nat} (hi : i < rows.length) : ∃ c : Nat, ptx rows h0 x i = (c : Int) ∧ c < rows.length ∧ (c : Int) ∈ rowOf rows i := by
  have h := List.mem_of_getElem? (ptx_get (h0 := h0) (x := x) (hl i hi))
  have r := row_in hv hi _ h
  exact ⟨(ptx rows h0 x i).toNat, by omega, by omega, by rw [Int.toNat_of_nonneg r.1]; exact h⟩
theorem pos_lt (hv : Valid rows) (hl : Live rows) (hs : s < rows.length) : ∀ t, pos rows h0 s t < rows.length
  | 0 => hs
  | t + 1 => by
    obtain ⟨c, h1, h2, _⟩ := ptx_nat (h0 := h0) (x := odo rows h0 s t) hv hl (pos_lt hv hl hs t)
    show (ptx rows h0 (odo rows h0 s t) (pos rows h0 s t)).toNat < _
    rw [h1]; exact h2
theorem pos_succ (hv : Valid rows) (hl : Live rows) (hs : s < rows.length) (t : Nat) : ((pos rows h0 s (t + 1) : Nat) : Int) = ptx rows h0 (odo rows h0 s t) (pos rows h0 s t) := by
  obtain ⟨c, h1, h2, _⟩ := ptx_nat (h0 := h0) (x := odo rows h0 s t) hv hl (pos_lt hv hl hs t)
  show (((ptx rows h0 (odo rows h0 s t) (pos rows h0 s t)).toNat : Nat) : Int) = _
  rw [h1]; simp
theorem odo_succ (t : Nat) : odo rows h0 s (t + 1) = up (odo rows h0 s t) (pos rows h0 s t) 1 := rfl
theorem wk_wx (hv : Valid rows) (hl : Live rows) (hs : s < rows.length) : ∀ t v : Nat, wx rows h0 (one s) (odo rows h0 s t) v = one (pos rows h0 s t) v
  | 0, v => wx_zero
  | t + 1, v => by
    have hp := pos_lt (h0 := h0) hv hl hs t
    rw [odo_succ, wx_up1 hp, wk_wx hv hl hs t v, ← pos_succ hv hl hs t]
    unfold one
    by_cases c : v = pos rows h0 s (t + 1)
    · rw [if_pos c, if_pos (show ((pos rows h0 s (t + 1) : Nat) : Int) = (v : Int) by omega)]; omega
    · rw [if_neg c, if_neg (show ¬ ((pos rows h0 s (t + 1) : Nat) : Int) = (v : Int) by omega)]; omega
theorem wk_sum (hv : Valid rows) (hl : Live rows) (hs : s < rows.length) : ∀ t, sumN rows.length (fun v => (odo rows h0 s t v : Int)) = t
  | 0 => sumN_zero _
  | t + 1 => by
    have hp := pos_lt (h0 := h0) hv hl hs t
    have e := sumN_one (f := fun v => (odo rows h0 s t v : Int)) (g := fun v => (odo rows h0 s (t + 1) v : Int)) (j := pos rows h0 s t) (d := 1) hp (fun i hi => by
      show ((up (odo rows h0 s t) (pos rows h0 s t) 1 i : Nat) : Int) = _
      rw [up_ne hi]) (by
      show ((up (odo rows h0 s t) (pos rows h0 s t) 1 _ : Nat) : Int) = _
      rw [up_same]; omega)
    rw [e, wk_sum hv hl hs t]
    simp
/-- how it goes on from where it is -/
theorem wk_on (hv : Valid rows) (hl : Live rows) (hs : s < rows.length) (a : Nat) : ∀ b, pos rows h0 s (a + b) = pos rows (hx rows h0 (odo rows h0 s a)) (pos rows h0 s a) b ∧
    ∀ v, odo rows h0 s (a + b) v = odo rows h0 s a v + odo rows (hx rows h0 (odo rows h0 s a)) (pos rows h0 s a) b v
  | 0 => ⟨rfl, fun v => (Nat.add_zero _).symm⟩
  | b + 1 => by
    obtain ⟨h1, h2⟩ := wk_on hv hl hs a b
    have e : ∀ v, hx rows (hx rows h0 (odo rows h0 s a)) (odo rows (hx rows h0 (odo rows h0 s a)) (pos rows h0 s a) b) v = hx rows h0 (odo rows h0 s (a + b)) v := fun v => by
      rw [hx_def, hx_def (h0 := h0), hx_def (h0 := h0), h2 v, Int.emod_add_emod, Int.natCast_add, Int.add_assoc]
    constructor
    · show (ptx rows h0 (odo rows h0 s (a + b)) (pos rows h0 s (a + b))).toNat = (ptx rows _ (odo rows _ (pos rows h0 s a) b) (pos rows _ (pos rows h0 s a) b)).toNat
      unfold ptx
      rw [e, h1]
    · intro v
      show up (odo rows h0 s (a + b)) (pos rows h0 s (a + b)) 1 v = _ + up (odo rows (hx rows h0 (odo rows h0 s a)) (pos rows h0 s a) b) (pos rows (hx rows h0 (odo rows h0 s a)) (pos rows h0 s a) b) 1 v
      rw [← h1]
      unfold up
      split <;> rw [h2 v] <;> omega
theorem hx_on (hv : Valid rows) (hl : Live rows) (hs : s < rows.length) (a b v : Nat) : hx rows h0 (odo rows h0 s (a + b)) v = hx rows (hx rows h0 (odo rows h0 s a)) (odo rows (hx rows h0 (odo rows h0 s a)) (pos rows h0 s a) b) v := by
  rw [hx_def, hx_def (h0 := hx rows h0 (odo rows h0 s a)), hx_def (h0 := h0), (wk_on hv hl hs a b).2 v, Int.emod_add_emod, Int.natCast_add, Int.add_assoc]
theorem hands_hx (hl : Live rows) (x : Nat → Nat) : Hands rows (hx rows h0 x) := fun i hi => by
  have := hx_range (rows := rows) (h0 := h0) (x := x) (hl i hi)
  exact ⟨this.1, .inl this.2⟩
/-- nobody is left more often than its ways, while s is not -/
theorem few (hv : Valid rows) (hl : Live rows) (hb : Bal rows) (hh : Hands rows h0) (hs : s < rows.length) : ∀ t, odo rows h0 s t s ≤ degOf rows s → ∀ v, v < rows.length → odo rows h0 s t v ≤ degOf rows v
  | 0, _, v, _ => Nat.zero_le _
  | t + 1, h, v, hvn => by
    have h' : odo rows h0 s t s ≤ degOf rows s := by
      rw [odo_succ] at h
      unfold up at h
      split at h <;> omega
    have ih := few hv hl hb hh hs t h'
    rw [odo_succ]
    by_cases c : v = pos rows h0 s t
    · rw [← c, up_same]
      by_cases cs : v = s
      · subst cs
        rw [odo_succ, ← c, up_same] at h
        exact h
      · have a := wk_wx (h0 := h0) hv hl hs t v
        unfold one wx at a
        simp only [if_pos c, if_neg cs] at a
        have b : sumN rows.length (fun u => arr (rowOf rows u) (h0 u) (odo rows h0 s t u) v) ≤ sumN rows.length (fun u => (((rowOf rows u).count (v : Int) : Nat) : Int)) := sumN_le fun u hu => by
          have z := arr_rounds (rowOf rows u) (v : Int) (h0 u) (hh u hu).1 1 0
          rw [Nat.one_mul, Nat.add_zero] at z
          have y : arr (rowOf rows u) (h0 u) (odo rows h0 s t u) v ≤ arr (rowOf rows u) (h0 u) (rowOf rows u).length v := arr_mono (ih u hu)
          rw [z] at y
          have : arr (rowOf rows u) (h0 u) 0 v = 0 := rfl
          omega
        rw [hb v hvn] at b
        omega
    · rw [up_ne c]
      exact ih v hvn
/-- one round: back at s, from which all ways were gone -/
structure Rd (rows : List (List Int)) (h0 : Nat → Int) (s T : Nat) : Prop where
  le : (T : Int) ≤ ways rows
  back : pos rows h0 s T = s
  all : odo rows h0 s T s = degOf rows s
  few : ∀ v, v < rows.length → odo rows h0 s T v ≤ degOf rows v
theorem rd_ex (hv : Valid rows) (hl : Live rows) (hb : Bal rows) (hh : Hands rows h0) (hs : s < rows.length) : ∃ T, Rd rows h0 s T := by
  have key : ∀ t, odo rows h0 s t s ≤ degOf rows s ∨ ∃ T, T < t ∧ pos rows h0 s T = s ∧ odo rows h0 s T s = degOf rows s := by
    intro t
    induction t with
    | zero => exact .inl (Nat.zero_le _)
    | succ t ih =>
      rcases ih with ih | ⟨T, h1, h2⟩
      · by_cases c : s = pos rows h0 s t
        · by_cases d : odo rows h0 s t s = degOf rows s
          · exact .inr ⟨t, Nat.lt_succ_self t, c.symm, d⟩
          · refine .inl ?_
            rw [odo_succ, ← c, up_same]; omega
        · refine .inl ?_
          rw [odo_succ, up_ne c]; exact ih
      · exact .inr ⟨T, by omega, h2⟩
  have hw : 0 ≤ ways rows := sumN_nn (f := fun v => (degOf rows v : Int)) fun i _ => by omega
  rcases key ((ways rows).toNat + 1) with h | ⟨T, h1, h2, h3⟩
  · have a := sumN_le (f := fun v => (odo rows h0 s ((ways rows).toNat + 1) v : Int)) (g := fun v => (degOf rows v : Int)) (n := rows.length) fun v hvn => by
      have := few hv hl hb hh hs _ h v hvn
      omega
    rw [wk_sum hv hl hs] at a
    have : sumN rows.length (fun v => (degOf rows v : Int)) = ways rows := rfl
    omega
  · exact ⟨T, by omega, h2, h3, few hv hl hb hh hs T (by omega)⟩
/-- a place that isn't left keeps its number -/
theorem odo_keep {a : Nat} {u : Nat} : ∀ b, (∀ t, a ≤ t → t < a + b → pos rows h0 s t ≠ u) → odo rows h0 s (a + b) u = odo rows h0 s a u
  | 0, _ => rfl
  | b + 1, h => by
    rw [← Nat.add_assoc, odo_succ, up_ne (fun e => h (a + b) (by omega) (by omega) e.symm)]
    exact odo_keep b fun t h1 h2 => h t h1 (by omega)
theorem odo_up {a b : Nat} (e : a ≤ b) (u : Nat) : odo rows h0 s a u ≤ odo rows h0 s b u := by
  induction e with
  | refl => exact Nat.le_refl _
  | step _ ih =>
    refine Nat.le_trans ih ?_
    rw [odo_succ]
    unfold up
    split <;> omega
theorem odo_seen {u : Nat} : ∀ {t : Nat}, 0 < odo rows h0 s t u → ∃ t', t' < t ∧ pos rows h0 s t' = u
  | 0, h => absurd h (Nat.lt_irrefl 0)
  | t + 1, h => by
    by_cases c : u = pos rows h0 s t
    · exact ⟨t, Nat.lt_succ_self t, c.symm⟩
    · rw [odo_succ, up_ne c] at h
      obtain ⟨t', h1, h2⟩ := odo_seen h
      exact ⟨t', by omega, h2⟩
/-- what came in at the round's end -/
theorem Rd.flow {T : Nat} (r : Rd rows h0 s T) (hv : Valid rows) (hl : Live rows) (hs : s < rows.length) (v : Nat) : sumN rows.length (fun u => arr (rowOf rows u) (h0 u) (odo rows h0 s T u) v) = odo rows h0 s T v := by
  have a := wk_wx (h0 := h0) hv hl hs T v
  rw [r.back] at a
  unfold wx at a
  omega
theorem count_eq {u : Nat} {h : Int} (h1 : 0 ≤ h) (v : Int) : arr (rowOf rows u) h (degOf rows u) v = (((rowOf rows u).count v : Nat) : Int) := by
  have z := arr_rounds (rowOf rows u) v h h1 1 0
  rw [Nat.one_mul, Nat.add_zero] at z
  unfold degOf
  rw [z]
  have : arr (rowOf rows u) h 0 v = 0 := rfl
  omega
theorem arr_few {u c : Nat} {h : Int} (h1 : 0 ≤ h) (hc : c ≤ degOf rows u) (v : Int) : arr (rowOf rows u) h c v ≤ (((rowOf rows u).count v : Nat) : Int) := by
  rw [← count_eq (rows := rows) (u := u) h1 v]
  exact arr_mono hc
/-- whatever is come to in a round has all its ways gone in the next one -/
theorem next_all (hv : Valid rows) (hl : Live rows) (hb : Bal rows) (hs : s < rows.length) {T T' : Nat} (r : Rd rows h0 s T) (r' : Rd rows (hx rows h0 (odo rows h0 s T)) s T') :
    ∀ k t, k ≤ T → T - k ≤ t → t < T → odo rows (hx rows h0 (odo rows h0 s T)) s T' (pos rows h0 s t) = degOf rows (pos rows h0 s t)
  | 0, t, _, h1, h2 => absurd h1 (by omega)
  | k + 1, t, hk, h1, h2 => by
    have ih := next_all hv hl hb hs r r' k
    by_cases c : T - k ≤ t
    · exact ih t (by omega) c h2
    have hu := pos_lt (h0 := h0) hv hl hs t
    generalize eu : pos rows h0 s t = u at hu ⊢
    by_cases again : ∃ t', t + 1 ≤ t' ∧ t' < T ∧ pos rows h0 s t' = u
    · obtain ⟨t', a1, a2, a3⟩ := again
      have := ih t' (by omega) (by omega) a2
      rw [a3] at this
      exact this
    · have last : odo rows h0 s T u = odo rows h0 s t u + 1 := by
        have := odo_keep (rows := rows) (h0 := h0) (s := s) (a := t + 1) (u := u) (T - (t + 1)) fun t' h1 h2 e => again ⟨t', h1, by omega, e⟩
        rw [show t + 1 + (T - (t + 1)) = T by omega] at this
        rw [this, odo_succ, eu, up_same]
      have hw := pos_lt (h0 := h0) hv hl hs (t + 1)
      have ew := pos_succ (h0 := h0) hv hl hs t
      rw [eu] at ew
      have full : odo rows (hx rows h0 (odo rows h0 s T)) s T' (pos rows h0 s (t + 1)) = degOf rows (pos rows h0 s (t + 1)) := by
        by_cases e : t + 1 = T
        · rw [e, r.back]; exact r'.all
        · exact ih (t + 1) (by omega) (by omega) (by omega)
      generalize pos rows h0 s (t + 1) = w at hw ew full
      have hh1 : ∀ v, v < rows.length → 0 ≤ hx rows h0 (odo rows h0 s T) v := fun v hvn => (hands_hx (h0 := h0) hl _ v hvn).1
      have flow := r'.flow hv hl hs w
      rw [full, ← hb w hw] at flow
      have each : ∀ v, v < rows.length → arr (rowOf rows v) (hx rows h0 (odo rows h0 s T) v) (odo rows (hx rows h0 (odo rows h0 s T)) s T' v) w ≤ (((rowOf rows v).count (w : Int) : Nat) : Int) := fun v hvn => arr_few (hh1 v hvn) (r'.few v hvn) _
      have eq : ¬ arr (rowOf rows u) (hx rows h0 (odo rows h0 s T) u) (odo rows (hx rows h0 (odo rows h0 s T)) s T' u) w < (((rowOf rows u).count (w : Int) : Nat) : Int) := fun z => by
        have := sumN_lt hu each z
        omega
      refine Nat.le_antisymm (r'.few u hu) (Nat.le_of_not_lt fun lt => eq ?_)
      have hd := hl u hu
      have m1 : arr (rowOf rows u) (hx rows h0 (odo rows h0 s T) u) (odo rows (hx rows h0 (odo rows h0 s T)) s T' u) w ≤ arr (rowOf rows u) (hx rows h0 (odo rows h0 s T) u) (degOf rows u - 1) w := arr_mono (by omega)
      have m2 : arr (rowOf rows u) (hx rows h0 (odo rows h0 s T) u) (degOf rows u) w = arr (rowOf rows u) (hx rows h0 (odo rows h0 s T) u) (degOf rows u - 1) w + 1 := by
        have e : degOf rows u = (degOf rows u - 1) + 1 := by omega
        have e2 : ((hx rows h0 (odo rows h0 s T) u + ((degOf rows u - 1 : Nat) : Int)) % ((rowOf rows u).length : Nat)) = hx rows h0 (odo rows h0 s t) u := by
          show (hx rows h0 (odo rows h0 s T) u + ((degOf rows u - 1 : Nat) : Int)) % (degOf rows u : Nat) = _
          unfold hx
          rw [last, Int.emod_add_emod]
          have : h0 u + ((odo rows h0 s t u + 1 : Nat) : Int) + ((degOf rows u - 1 : Nat) : Int) = h0 u + ((odo rows h0 s t u : Nat) : Int) + (degOf rows u : Nat) := by omega
          rw [this, Int.add_emod_right]
        rw [e]
        show arr (rowOf rows u) _ (degOf rows u - 1) w + (if _ then 1 else 0) = _
        rw [e2]
        have : (rowOf rows u).getD (hx rows h0 (odo rows h0 s t) u).toNat (-1) = (w : Int) := ew.symm
        rw [if_pos this, Nat.add_sub_cancel]
      rw [count_eq (hh1 u hu)] at m2
      omega
/-- how many places were left -/
def cntL (rows : List (List Int)) (c : Nat → Nat) : Int := sumN rows.length fun v => if 0 < c v then 1 else 0
theorem cnt_all {c : Nat → Nat} (h : (rows.length : Int) ≤ cntL rows c) : ∀ v, v < rows.length → 0 < c v := fun v hv => Classical.byContradiction fun z => by
  have := sumN_lt (f := fun v => if 0 < c v then (1 : Int) else 0) (g := fun _ => 1) hv (fun i _ => by show (if 0 < c i then (1 : Int) else 0) ≤ 1; split <;> omega) (by show (if 0 < c v then (1 : Int) else 0) < 1; rw [if_neg z]; decide)
  rw [sumN_const] at this
  unfold cntL at h
  omega
/-- what isn't left is come to by a way from what is -/
theorem edge_out (hv : Valid rows) {c : Nat → Nat} {a : Nat} {v : Int} (h : Rch rows (a : Int) v) (ha : a < rows.length) (ca : 0 < c a) (cv : ¬ 0 < c v.toNat) : ∃ u w : Nat, u < rows.length ∧ w < rows.length ∧ 0 < c u ∧ ¬ 0 < c w ∧ (w : Int) ∈ rowOf rows u := by
  induction h with
  | refl => rw [Int.toNat_natCast] at cv; exact absurd ca cv
  | @step b d r h1 h2 h3 h4 ih =>
    have hb := h1.range hv ⟨by omega, by omega⟩
    have hd := hv.way h3 h4
    by_cases cb : 0 < c b.toNat
    · refine ⟨b.toNat, d.toNat, by omega, by omega, cb, cv, ?_⟩
      have : rowOf rows b.toNat = r := by
        have := rowOf_get (rows := rows) (i := b.toNat) (by omega)
        rw [h3] at this
        exact (Option.some.inj this).symm
      rw [this, Int.toNat_of_nonneg hd.1]
      exact h4
    · exact ih cb
theorem left_next (hv : Valid rows) (hl : Live rows) (hb : Bal rows) (hs : s < rows.length) {T T' : Nat} (r : Rd rows h0 s T) (r' : Rd rows (hx rows h0 (odo rows h0 s T)) s T') {u : Nat} (h : 0 < odo rows h0 s T u) :
    odo rows (hx rows h0 (odo rows h0 s T)) s T' u = degOf rows u := by
  obtain ⟨t, h1, rfl⟩ := odo_seen h
  exact next_all hv hl hb hs r r' T t (Nat.le_refl _) (by omega) h1
theorem grow (hv : Valid rows) (hl : Live rows) (hb : Bal rows) (hj : JoinedN rows) (hs : s < rows.length) {T T' : Nat} (r : Rd rows h0 s T) (r' : Rd rows (hx rows h0 (odo rows h0 s T)) s T') {i : Int} (hi : i ≤ cntL rows (odo rows h0 s T)) (hn : i ≤ rows.length - 1) :
    i + 1 ≤ cntL rows (odo rows (hx rows h0 (odo rows h0 s T)) s T') := by
  have up1 : ∀ u, u < rows.length → 0 < odo rows h0 s T u → 0 < odo rows (hx rows h0 (odo rows h0 s T)) s T' u := fun u hu h => by
    rw [left_next hv hl hb hs r r' h]; exact hl u hu
  have le : ∀ v, v < rows.length → (if 0 < odo rows h0 s T v then (1 : Int) else 0) ≤ (if 0 < odo rows (hx rows h0 (odo rows h0 s T)) s T' v then 1 else 0) := fun v hvn => by
    by_cases c : 0 < odo rows h0 s T v
    · rw [if_pos c, if_pos (up1 v hvn c)]; exact Int.le_refl _
    · rw [if_neg c]; split <;> decide
  by_cases all : ∀ v, v < rows.length → 0 < odo rows h0 s T v
  · have : (rows.length : Int) ≤ cntL rows (odo rows (hx rows h0 (odo rows h0 s T)) s T') := by
      unfold cntL
      have := sumN_le (f := fun _ => 1) (g := fun v => if 0 < odo rows (hx rows h0 (odo rows h0 s T)) s T' v then (1 : Int) else 0) (n := rows.length) fun v hvn => by
        rw [if_pos (up1 v hvn (all v hvn))]; exact Int.le_refl _
      rw [sumN_const] at this
      omega
    omega
  · obtain ⟨v, z⟩ := Classical.not_forall.mp all
    obtain ⟨hvn, hno⟩ : v < rows.length ∧ ¬ 0 < odo rows h0 s T v := Classical.not_imp.mp z
    have h0s : 0 < odo rows h0 s T s := by rw [r.all]; exact hl s hs
    obtain ⟨u, w, hu, hw, cu, cw, e⟩ := edge_out (c := odo rows h0 s T) hv (hj s v hs hvn) hs h0s (by rw [Int.toNat_natCast]; exact hno)
    have h1 : 0 < odo rows (hx rows h0 (odo rows h0 s T)) s T' w := by
      have fl := r'.flow hv hl hs w
      have p := sumN_pos (f := fun u => arr (rowOf rows u) (hx rows h0 (odo rows h0 s T) u) (odo rows (hx rows h0 (odo rows h0 s T)) s T' u) w) hu fun i _ => arr_nn _ _ _ _
      have q : arr (rowOf rows u) (hx rows h0 (odo rows h0 s T) u) (odo rows (hx rows h0 (odo rows h0 s T)) s T' u) w = (((rowOf rows u).count (w : Int) : Nat) : Int) := by
        rw [left_next hv hl hb hs r r' cu]
        exact count_eq (hands_hx (h0 := h0) hl _ u hu).1 _
      have cp : 0 < (rowOf rows u).count (w : Int) := List.count_pos_iff.mpr e
      have p : arr (rowOf rows u) (hx rows h0 (odo rows h0 s T) u) (odo rows (hx rows h0 (odo rows h0 s T)) s T' u) w ≤ sumN rows.length (fun u => arr (rowOf rows u) (hx rows h0 (odo rows h0 s T) u) (odo rows (hx rows h0 (odo rows h0 s T)) s T' u) w) := p
      omega
    have := sumN_lt hw le (by rw [if_neg cw, if_pos h1]; decide)
    unfold cntL at hi ⊢
    omega
/-- the round through all ways -/
theorem round_ex (hv : Valid rows) (hl : Live rows) (hb : Bal rows) (hj : JoinedN rows) (hh : Hands rows h0) (hs : s < rows.length) :
    ∃ A : Nat, (A : Int) ≤ rows.length * ways rows ∧ pos rows h0 s A = s ∧ ∃ T, Rd rows (hx rows h0 (odo rows h0 s A)) s T ∧ ∀ v, v < rows.length → odo rows (hx rows h0 (odo rows h0 s A)) s T v = degOf rows v := by
  have key : ∀ i : Nat, ∃ A : Nat, (A : Int) ≤ i * ways rows ∧ pos rows h0 s A = s ∧ ∃ T, Rd rows (hx rows h0 (odo rows h0 s A)) s T ∧ (i + 1 ≤ rows.length → (i : Int) + 1 ≤ cntL rows (odo rows (hx rows h0 (odo rows h0 s A)) s T)) ∧
      (rows.length ≤ i → ∀ v, v < rows.length → odo rows (hx rows h0 (odo rows h0 s A)) s T v = degOf rows v) := by
    intro i
    induction i with
    | zero =>
      have hh' : Hands rows (hx rows h0 (odo rows h0 s 0)) := hands_hx hl _
      obtain ⟨T, r⟩ := rd_ex hv hl hb hh' hs
      refine ⟨0, by simp, rfl, T, r, fun _ => ?_, fun h => ?_⟩
      · have h1 : 0 < odo rows (hx rows h0 (odo rows h0 s 0)) s T s := by rw [r.all]; exact hl s hs
        have := sumN_pos (f := fun v => if 0 < odo rows (hx rows h0 (odo rows h0 s 0)) s T v then (1 : Int) else 0) hs fun i _ => by split <;> decide
        rw [if_pos h1] at this
        exact this
      · have := hv.pos; omega
    | succ i ih =>
      obtain ⟨A, a1, a2, T, r, c1, c2⟩ := ih
      have on := wk_on (h0 := h0) hv hl hs A T
      rw [a2] at on
      have eh : hx rows h0 (odo rows h0 s (A + T)) = hx rows (hx rows h0 (odo rows h0 s A)) (odo rows (hx rows h0 (odo rows h0 s A)) s T) := by
        funext v
        have := hx_on (h0 := h0) hv hl hs A T v
        rw [a2] at this
        exact this
      obtain ⟨T', r'⟩ := rd_ex (h0 := hx rows h0 (odo rows h0 s (A + T))) hv hl hb (hands_hx hl _) hs
      refine ⟨A + T, ?_, ?_, T', r', ?_, ?_⟩
      · have := r.le
        rw [Int.natCast_add, Int.natCast_add, Int.add_mul]
        omega
      · rw [on.1]; exact r.back
      · intro hn
        rw [eh] at r' ⊢
        exact grow hv hl hb hj hs r r' (i := (i : Int) + 1) (c1 (by omega)) (by omega)
      · intro hn v hvn
        rw [eh] at r' ⊢
        refine left_next hv hl hb hs r r' ?_
        by_cases e : rows.length ≤ i
        · rw [c2 e v hvn]; exact hl v hvn
        · have := c1 (by omega)
          exact cnt_all (c := odo rows (hx rows h0 (odo rows h0 s A)) s T) (by omega) v hvn
  obtain ⟨A, a1, a2, T, r, _, c⟩ := key rows.length
  exact ⟨A, a1, a2, T, r, c (Nat.le_refl _)⟩
/-- the way gone at a step: the place, its number -/
def way (rows : List (List Int)) (h0 : Nat → Int) (s t : Nat) : Nat × Int := (pos rows h0 s t, hx rows h0 (odo rows h0 s t) (pos rows h0 s t))
theorem way_1 {a b : Nat} (h : way rows h0 s a = way rows h0 s b) : pos rows h0 s a = pos rows h0 s b := congrArg (fun z : Nat × Int => z.1) h
theorem way_2 {a b : Nat} (h : way rows h0 s a = way rows h0 s b) : hx rows h0 (odo rows h0 s a) (pos rows h0 s a) = hx rows h0 (odo rows h0 s b) (pos rows h0 s b) := congrArg (fun z : Nat × Int => z.2) h
/-- place and hands at a step -/
def Sst (rows : List (List Int)) (h0 : Nat → Int) (s a b : Nat) : Prop := pos rows h0 s a = pos rows h0 s b ∧ ∀ v, v < rows.length → hx rows h0 (odo rows h0 s a) v = hx rows h0 (odo rows h0 s b) v
theorem Sst.refl (a : Nat) : Sst rows h0 s a a := ⟨rfl, fun _ _ => rfl⟩
theorem Sst.symm {a b : Nat} (h : Sst rows h0 s a b) : Sst rows h0 s b a := ⟨h.1.symm, fun v hv => (h.2 v hv).symm⟩
theorem Sst.trans {a b c : Nat} (h : Sst rows h0 s a b) (h' : Sst rows h0 s b c) : Sst rows h0 s a c := ⟨h.1.trans h'.1, fun v hv => (h.2 v hv).trans (h'.2 v hv)⟩
theorem Sst.way (hv : Valid rows) (hl : Live rows) (hs : s < rows.length) {a b : Nat} (h : Sst rows h0 s a b) : way rows h0 s a = way rows h0 s b := by
  have hp := pos_lt (h0 := h0) hv hl hs a
  have h1 := h.2 _ hp
  show (pos rows h0 s a, hx rows h0 (odo rows h0 s a) (pos rows h0 s a)) = (pos rows h0 s b, hx rows h0 (odo rows h0 s b) (pos rows h0 s b))
  rw [h1, h.1]
theorem Sst.next (hv : Valid rows) (hl : Live rows) (hs : s < rows.length) {a b : Nat} (h : Sst rows h0 s a b) : Sst rows h0 s (a + 1) (b + 1) := by
  have hp := pos_lt (h0 := h0) hv hl hs a
  constructor
  · show (ptx rows h0 (odo rows h0 s a) (pos rows h0 s a)).toNat = (ptx rows h0 (odo rows h0 s b) (pos rows h0 s b)).toNat
    unfold ptx
    rw [h.2 _ hp, h.1]
  · intro v hvn
    rw [odo_succ, odo_succ, hx_up, hx_up]
    unfold put1
    rw [h.2 _ hp, h.1]
    split
    · rfl
    · exact h.2 v hvn
theorem Sst.on (hv : Valid rows) (hl : Live rows) (hs : s < rows.length) {a b : Nat} (h : Sst rows h0 s a b) : ∀ k, Sst rows h0 s (a + k) (b + k)
  | 0 => h
  | k + 1 => (Sst.on hv hl hs h k).next hv hl hs
theorem hands_move {t : Nat} {v : Nat} : hx rows h0 (odo rows h0 s (t + 1)) v = if v = pos rows h0 s t then (hx rows h0 (odo rows h0 s t) v + 1) % (degOf rows v : Nat) else hx rows h0 (odo rows h0 s t) v := by
  rw [odo_succ, hx_up]
  unfold put1
  split
  · rename_i e; subst e; rfl
  · rfl
/-- the same ways gone, the same hands behind -/
theorem Sst.of_ways (hv : Valid rows) (hl : Live rows) (hs : s < rows.length) {a m : Nat} (hm : 0 < m) (h : ∀ k, k < m → Rw.way rows h0 s (a + k) = Rw.way rows h0 s (a + m + k)) : Sst rows h0 s a (a + m) := by
  have hp : ∀ k, k < m → pos rows h0 s (a + k) = pos rows h0 s (a + m + k) := fun k hk => way_1 (h k hk)
  refine ⟨hp 0 hm, fun v hvn => ?_⟩
  by_cases c : ∃ k, k < m ∧ pos rows h0 s (a + k) = v
  · -- the first time
    have first : ∀ n, (∃ k, k < n ∧ k < m ∧ pos rows h0 s (a + k) = v) → ∃ k, k < m ∧ pos rows h0 s (a + k) = v ∧ ∀ j, j < k → pos rows h0 s (a + j) ≠ v := by
      intro n
      induction n with
      | zero => rintro ⟨k, z, _⟩; omega
      | succ n ih =>
        rintro ⟨k, k1, k2, k3⟩
        by_cases q : ∃ j, j < k ∧ j < m ∧ pos rows h0 s (a + j) = v
        · obtain ⟨j, j1, j2, j3⟩ := q
          exact ih ⟨j, by omega, j2, j3⟩
        · exact ⟨k, k2, k3, fun j hj z => q ⟨j, hj, by omega, z⟩⟩
    obtain ⟨k, k2, k3, k4⟩ := first m (by obtain ⟨k, h1, h2⟩ := c; exact ⟨k, h1, h1, h2⟩)
    have e1 : ∀ {b : Nat}, (∀ j, j < k → pos rows h0 s (b + j) ≠ v) → hx rows h0 (odo rows h0 s (b + k)) v = hx rows h0 (odo rows h0 s b) v := fun {b} q => by
      unfold hx
      rw [odo_keep (rows := rows) (h0 := h0) (s := s) (a := b) (u := v) k fun t h1 h2 z => q (t - b) (by omega) (by rw [Nat.add_sub_cancel' h1]; exact z)]
    have e2 := e1 (b := a) k4
    have e3 := e1 (b := a + m) fun j hj z => k4 j hj (by rw [hp j (by omega)]; exact z)
    have e4 := way_2 (h k k2)
    rw [← hp k k2, k3, e2, e3] at e4
    exact e4
  · unfold hx
    rw [odo_keep (rows := rows) (h0 := h0) (s := s) (a := a) (u := v) m fun t h1 h2 z => c ⟨t - a, by omega, by rw [Nat.add_sub_cancel' h1]; exact z⟩]
theorem mod_ne {a d : Int} {x y : Int} (hd : 0 < d) (h1 : x < y) (h2 : y < x + d) : (a + x) % d ≠ (a + y) % d := fun q => by
  have e1 := Int.emod_add_mul_ediv (a + x) d
  have e2 := Int.emod_add_mul_ediv (a + y) d
  rw [q] at e1
  have e3 : d * ((a + y) / d - (a + x) / d) = y - x := by rw [Int.mul_sub]; omega
  by_cases c : (a + y) / d - (a + x) / d ≤ 0
  · have := Int.mul_le_mul_of_nonneg_left c (Int.le_of_lt hd)
    rw [Int.mul_zero] at this
    omega
  · have := Int.mul_le_mul_of_nonneg_left (show 1 ≤ (a + y) / d - (a + x) / d by omega) (Int.le_of_lt hd)
    rw [Int.mul_one] at this
    omega
/-- where the round begins, and how the ways go in it -/
theorem loop_ex (hv : Valid rows) (hl : Live rows) (hb : Bal rows) (hj : JoinedN rows) (hh : Hands rows h0) (hs : s < rows.length) {m : Nat} (hm : (m : Int) = ways rows) :
    ∃ A : Nat, A ≤ rows.length * m ∧ Sst rows h0 s A (A + m) ∧ ∀ i j, i < j → j < m → Rw.way rows h0 s (A + i) ≠ Rw.way rows h0 s (A + j) := by
  obtain ⟨A, a1, a2, T, r, c⟩ := round_ex (h0 := h0) hv hl hb hj hh hs
  have eT : T = m := by
    have h1 := wk_sum (h0 := hx rows h0 (odo rows h0 s A)) hv hl hs T
    have h2 : sumN rows.length (fun v => (odo rows (hx rows h0 (odo rows h0 s A)) s T v : Int)) = ways rows := sumN_congr fun v hvn => by rw [c v hvn]
    omega
  subst eT
  have on := fun k => wk_on (h0 := h0) hv hl hs A k
  have ho := fun k v => hx_on (h0 := h0) hv hl hs A k v
  rw [a2] at on ho
  refine ⟨A, by rw [← hm] at a1; exact_mod_cast a1, ⟨?_, fun v hvn => ?_⟩, fun i j hij hj e => ?_⟩
  · rw [(on T).1, r.back, a2]
  · unfold hx
    have := (on T).2 v
    rw [c v hvn] at this
    rw [this, Int.natCast_add, ← Int.add_assoc, Int.add_emod_right]
  · have p := way_1 e
    have q := way_2 e
    rw [(on i).1, (on j).1] at p q
    rw [ho i, ho j, ← p] at q
    have hp := pos_lt (h0 := hx rows h0 (odo rows h0 s A)) hv hl hs i
    have o1 : odo rows (hx rows h0 (odo rows h0 s A)) s (i + 1) (pos rows (hx rows h0 (odo rows h0 s A)) s i) = odo rows (hx rows h0 (odo rows h0 s A)) s i (pos rows (hx rows h0 (odo rows h0 s A)) s i) + 1 := by rw [odo_succ, up_same]
    have o2 := odo_up (rows := rows) (h0 := hx rows h0 (odo rows h0 s A)) (s := s) (show i + 1 ≤ j by omega) (pos rows (hx rows h0 (odo rows h0 s A)) s i)
    have o3 : odo rows (hx rows h0 (odo rows h0 s A)) s (j + 1) (pos rows (hx rows h0 (odo rows h0 s A)) s i) = odo rows (hx rows h0 (odo rows h0 s A)) s j (pos rows (hx rows h0 (odo rows h0 s A)) s i) + 1 := by rw [odo_succ, p, up_same]
    have o4 := odo_up (rows := rows) (h0 := hx rows h0 (odo rows h0 s A)) (s := s) (show j + 1 ≤ T by omega) (pos rows (hx rows h0 (odo rows h0 s A)) s i)
    rw [c _ hp] at o4
    rw [o1] at o2
    rw [o3] at o4
    have d0 : (0 : Int) < degOf rows (pos rows (hx rows h0 (odo rows h0 s A)) s i) := by have := hl _ hp; omega
    rw [hx_def, hx_def] at q
    exact mod_ne d0 (Int.ofNat_lt.mpr (Nat.lt_of_succ_le o2)) (by omega) q
theorem Sst.times (hv : Valid rows) (hl : Live rows) (hs : s < rows.length) {a p : Nat} (h : Sst rows h0 s a (a + p)) : ∀ c, Sst rows h0 s a (a + c * p)
  | 0 => by rw [Nat.zero_mul]; exact .refl _
  | c + 1 => by
    have h1 := Sst.times hv hl hs h c
    have h2 := h.on hv hl hs (c * p)
    rw [show a + (c + 1) * p = a + p + c * p by rw [Nat.add_mul]; omega]
    exact h1.trans h2
/-- the least, if there is one -/
theorem least_ex {q : Nat → Prop} : ∀ n, q n → ∃ k, k ≤ n ∧ q k ∧ ∀ j, j < k → ¬ q j
  | 0, h => ⟨0, Nat.le_refl 0, h, fun j hj => absurd hj (Nat.not_lt_zero j)⟩
  | n + 1, h => by
    by_cases c : ∃ k, k ≤ n ∧ q k
    · obtain ⟨k, h1, h2⟩ := c
      have : ∀ k, k ≤ n → q k → ∃ k', k' ≤ k ∧ q k' ∧ ∀ j, j < k' → ¬ q j := by
        intro k
        induction k with
        | zero => exact fun _ h => ⟨0, Nat.le_refl 0, h, fun j hj => absurd hj (Nat.not_lt_zero j)⟩
        | succ k ih =>
          intro hk hq
          by_cases d : ∃ j, j ≤ k ∧ q j
          · obtain ⟨j, j1, j2⟩ := d
            have low : ∀ i, i ≤ k → q i → ∃ k', k' ≤ k ∧ q k' ∧ ∀ j, j < k' → ¬ q j := by
              intro i
              induction i using Nat.strongRecOn with
              | ind i ihi =>
                intro hi hqi
                by_cases e : ∃ j, j < i ∧ q j
                · obtain ⟨j, e1, e2⟩ := e
                  exact ihi j e1 (by omega) e2
                · exact ⟨i, hi, hqi, fun j hj hq => e ⟨j, hj, hq⟩⟩
            obtain ⟨k', a1, a2, a3⟩ := low j j1 j2
            exact ⟨k', by omega, a2, a3⟩
          · exact ⟨k + 1, Nat.le_refl _, hq, fun j hj hq => d ⟨j, by omega, hq⟩⟩
      obtain ⟨k', a1, a2, a3⟩ := this k h1 h2
      exact ⟨k', by omega, a2, a3⟩
    · exact ⟨n + 1, Nat.le_refl _, h, fun j hj hq => c ⟨j, by omega, hq⟩⟩
/-- how the walk of one walker comes into its round: so many steps ahead, so many in it -/
structure Rho (rows : List (List Int)) (h0 : Nat → Int) (s m ah : Nat) : Prop where
  le : ah ≤ rows.length * m
  again : Sst rows h0 s ah (ah + m)
  first : ∀ a, a < ah → ¬ Sst rows h0 s a (a + m)
  new : ∀ i j, i < j → j < ah + m → ¬ Sst rows h0 s i j
  each : ∀ i j, i < j → j < m → way rows h0 s (ah + i) ≠ way rows h0 s (ah + j)
theorem rho_ex (hv : Valid rows) (hl : Live rows) (hb : Bal rows) (hj : JoinedN rows) (hh : Hands rows h0) (hs : s < rows.length) {m : Nat} (hm : (m : Int) = ways rows) : 0 < m ∧ ∃ ah, Rho rows h0 s m ah := by
  have hm0 : 0 < m := by
    have := sumN_pos (f := fun v => (degOf rows v : Int)) hs fun i _ => by omega
    have h1 := hl s hs
    have : sumN rows.length (fun v => (degOf rows v : Int)) = ways rows := rfl
    omega
  refine ⟨hm0, ?_⟩
  obtain ⟨A, a1, a2, a3⟩ := loop_ex (h0 := h0) hv hl hb hj hh hs hm
  obtain ⟨ah, b1, b2, b3⟩ := least_ex (q := fun a => Sst rows h0 s a (a + m)) A a2
  have per : ∀ a, ah ≤ a → Sst rows h0 s a (a + m) := fun a ha => by
    have := b2.on hv hl hs (a - ah)
    rw [Nat.add_sub_cancel' ha, show ah + m + (a - ah) = a + m by omega] at this
    exact this
  refine ⟨ah, Nat.le_trans b1 a1, b2, b3, fun i j hij hjm e => ?_, ?_⟩
  · -- the period is a number of rounds
    obtain ⟨p, rfl⟩ : ∃ p, j = i + p := ⟨j - i, by omega⟩
    have hN := a2.times hv hl hs i
    have hge : i ≤ A + i * m := Nat.le_trans (Nat.le_mul_of_pos_right i hm0) (Nat.le_add_left _ _)
    have e1 := e.on hv hl hs (A + i * m - i)
    rw [Nat.add_sub_cancel' hge, show i + p + (A + i * m - i) = A + i * m + p by omega] at e1
    have e2 : Sst rows h0 s A (A + p) := hN.trans (e1.trans (hN.symm.on hv hl hs p))
    have e3 : Sst rows h0 s A (A + p % m) := by
      have q := (a2.on hv hl hs (p % m))
      rw [show A + m + p % m = A + p % m + m by omega] at q
      have q := q.times hv hl hs (p / m)
      rw [show A + p % m + p / m * m = A + p by have := Nat.mod_add_div p m; rw [Nat.mul_comm] at this; omega] at q
      exact e2.trans q.symm
    have e4 : p % m = 0 := Nat.eq_zero_of_not_pos fun z => a3 0 (p % m) z (Nat.mod_lt _ hm0) (e3.way hv hl hs)
    have hp : m ≤ p := Nat.le_of_dvd (by omega) (Nat.dvd_of_mod_eq_zero e4)
    refine b3 i (by omega) ?_
    have f1 := e.times hv hl hs A
    have hA : ah ≤ i + A * p := Nat.le_trans b1 (Nat.le_trans (Nat.le_mul_of_pos_right A (by omega)) (Nat.le_add_left _ _))
    exact f1.trans ((per _ hA).trans (f1.symm.on hv hl hs m))
  · -- downwards
    have down : ∀ k, k ≤ A - ah → ∀ i j, i < j → j < m → way rows h0 s (A - k + i) ≠ way rows h0 s (A - k + j) := by
      intro k
      induction k with
      | zero => exact fun _ => a3
      | succ k ih =>
        intro hk i j hij hjm e
        have ih := ih (by omega)
        have er : A - k = A - (k + 1) + 1 := by omega
        rw [er] at ih
        by_cases c : i = 0
        · subst c
          have w := (per (A - (k + 1)) (by omega)).way hv hl hs
          refine ih (j - 1) (m - 1) (by omega) (by omega) ?_
          rw [show A - (k + 1) + 1 + (j - 1) = A - (k + 1) + j by omega, show A - (k + 1) + 1 + (m - 1) = A - (k + 1) + m by omega, ← e, ← w]
          rfl
        · refine ih (i - 1) (j - 1) (by omega) (by omega) ?_
          rw [show A - (k + 1) + 1 + (i - 1) = A - (k + 1) + i by omega, show A - (k + 1) + 1 + (j - 1) = A - (k + 1) + j by omega]
          exact e
    have := down (A - ah) (Nat.le_refl _)
    rwa [show A - (A - ah) = ah by omega] at this
end
end Rw

set_option maxHeartbeats 4000000
namespace Rw
open PySem PySem.Spec PyProof.Rows L2
local macro_rules | `(tactic| walk_at "go1") => `(tactic| first
  | (with_reducible refine w_seq ?_)
  | (with_reducible refine w_asg ?_)
  | (with_reducible refine w_name ?_)
  | (with_reducible refine w_drop ?_)
  | (with_reducible refine w_ret ?_)
  | (with_reducible refine w_next ?_)
  | (with_reducible refine w_op ?_)
  | (with_reducible refine w_un ?_)
  | (with_reducible refine w_c ?_)
  | (with_reducible refine w_var (by with_unfolding_all rfl) ?_)
  | (with_reducible refine w_rI0 ?_)
  | (with_reducible refine w_rU ?_)
  | ((with_reducible refine w_mod ?_ ?_); (show (0 : Int) < _); omega)
  | ((with_reducible refine w_div ?_ ?_); exact And.intro (by omega) (by omega))
  | ((with_reducible refine w_mul ?_ ?_); (first | exact Or.inl (And.intro (by omega) (by omega)) | exact Or.inr (And.intro (by omega) (by omega))))
  | (with_reducible refine w_ifS ?_)
  | (with_reducible refine w_if ?_)
  | (with_reducible refine w_test ?_)
  | (with_reducible refine w_B ?_)
  | (with_reducible refine w_bl ?_)
  | (with_reducible refine w_not ?_)
  | (with_reducible refine w_and ?_)
  | (with_reducible refine w_or ?_)
  | (with_reducible refine w_cons ?_)
  | (with_reducible refine w_nil ?_)
  | (with_reducible refine w_call ?_)
  | (with_reducible refine w_cb ?_)
  | (with_reducible refine w_bm0 ?_)
  | (with_reducible refine w_bm ?_)
  | (with_reducible refine w_tlst ?_)
  | (with_reducible refine w_ttup ?_)
  | (with_reducible refine w_sub ?_)
  | (with_reducible refine w_for ?_)
  | (with_reducible refine w_rng1 ?_)
  | ((with_reducible refine w_rngE ?_ ?_ ?_); omega; omega)
  | (with_reducible refine w_iL ?_)
  | (with_reducible refine w_iT ?_)
  | (with_reducible refine w_iE ?_)
  | (with_reducible refine w_iZ ?_)
  | (with_reducible refine w_lc ?_)
  | (with_reducible refine w_yes ?_)
  | (with_reducible refine w_gcons ?_)
  | (with_reducible refine w_gnil ?_)
  | (with_reducible refine w_max2 ?_)
  | (with_reducible refine w_sl ?_)
  | (with_reducible refine w_part ?_)
  | (with_reducible refine w_partI ?_)
  | (with_reducible refine w_nopart ?_)
  | (with_reducible refine w_isT ?_)
  | (with_reducible refine w_notT ?_)
  | (with_reducible refine w_isB ?_)
  | (with_reducible refine w_notB ?_)
  | (with_reducible refine w_isN ?_)
  | (with_reducible refine w_notN ?_)
  | (with_reducible refine w_fld ?_)
  | (with_reducible refine w_ftm ?_)
  | (with_reducible refine w_lrg ?_)
  | (with_reducible refine w_rg1 ?_)
  | (with_reducible refine w_rg1E ?_)
  | (with_reducible refine w_tru ?_)
  | (with_reducible refine w_truB ?_)
  | (with_reducible refine w_truI ?_)
  | (with_reducible refine w_notT' ?_)
  | (with_reducible refine w_andT ?_)
  | (with_reducible refine w_orT ?_)
  | (with_reducible refine w_andV ?_)
  | (with_reducible refine w_orV ?_)
  | (with_reducible refine w_andE ?_)
  | (with_reducible refine w_orE ?_)
  | (with_reducible refine w_notV ?_)
  | (with_reducible refine w_notE ?_)
  | (with_reducible refine w_chain ?_)
  | (with_reducible refine w_chainI ?_)
  | (with_reducible refine w_meth ?_)
  | (with_reducible refine w_make ?_)
  | (with_reducible refine w_sfld ?_))
local macro_rules | `(tactic| walk_at "go") => `(tactic| repeat walk_at "go1")

local macro_rules | `(tactic| walk_at "go1") => `(tactic| first
  | (with_reducible refine w_callX ?_)
  | (with_reducible refine w_methX ?_)
  | (with_reducible refine w_makeX ?_)
  | (with_reducible refine w_maked ?_)
  | (with_reducible refine w_methd ?_)
  | (with_reducible refine w_dgetN ?_))
/-! ### the round -/
/-- even, in the words of the walk -/
theorem even_in {rows : List (List Int)} (hv : Valid rows) (e : EvenW rows) : Live rows ∧ Bal rows ∧ JoinedN rows := by
  refine ⟨fun v hvn => ?_, fun v hvn => ?_, fun u v hu hvn => e.join u v (by omega) (by omega) (by omega) (by omega)⟩
  · have := e.noRest _ (List.mem_of_getElem? (rowOf_get hvn))
    exact List.length_pos_iff.mpr this
  · have := e.bal v _ (rowOf_get hvn)
    unfold waysIn at this
    have q : ∀ rs : List (List Int), sumN rs.length (fun u => (((rowOf rs u).count (v : Int) : Nat) : Int)) = (rs.map fun r => ((r.count (v : Int) : Nat) : Int)).sum := fun rs => by
      rw [← sum_vec]
      congr 1
      refine List.ext_getElem? fun i => ?_
      by_cases hi : i < rs.length
      · rw [vec_get hi, List.getElem?_map, rowOf_get hi]; rfl
      · rw [List.getElem?_eq_none (by simpa using hi), List.getElem?_eq_none (by simpa using hi)]
    rw [q, this]
    rfl
theorem ways_le {rows : List (List Int)} (hv : Valid rows) : 0 ≤ ways rows ∧ ways rows ≤ 24 := by
  have hle := hv.le
  have h1 : ∀ v, v < rows.length → (degOf rows v : Int) ≤ 3 := fun v hvn => by
    have : (rowOf rows v).length ≤ 3 := (hv.row _ (List.mem_of_getElem? (rowOf_get hvn))).1
    unfold degOf
    omega
  have := sumN_le (f := fun v => (degOf rows v : Int)) (g := fun _ => 3) (n := rows.length) h1
  rw [sumN_const] at this
  have h2 := sumN_nn (f := fun v => (degOf rows v : Int)) (n := rows.length) fun i _ => by omega
  unfold ways
  exact ⟨h2, by omega⟩
/-- steps of a round, told -/
def WaysB (B : Hp) : List Addr → List (Nat × Int) → Prop := Paired fun a q => B a = some (.tup [.int (q.1 : Nat), .int q.2])
theorem WaysB.up {B B' : Hp} {as : List Addr} {ws : List (Nat × Int)} (h : WaysB B as ws) (e : Same B B') : WaysB B' as ws := Paired.mapP h fun _ _ z => e _ _ z
theorem WaysB.push {B : Hp} {as : List Addr} {ws : List (Nat × Int)} (h : WaysB B as ws) {a : Addr} {q : Nat × Int} (r : B a = some (.tup [.int (q.1 : Nat), .int q.2])) : WaysB B (as ++ [a]) (ws ++ [q]) := Paired.push1 (F := fun (a : Addr) (q : Nat × Int) => B a = some (.tup [.int (q.1 : Nat), .int q.2])) (x := a) (y := q) r h
theorem Paired.dropP {α β : Type} {F : α → β → Prop} : ∀ {l₁ : List α} {l₂ : List β} (n : Nat), Paired F l₁ l₂ → Paired F (l₁.drop n) (l₂.drop n)
  | _, _, 0, h => h
  | _, _, _ + 1, .nil => .nil
  | _, _, n + 1, .cons _ t => Paired.dropP n t
theorem cut_lo {xs : List V} {k : Nat} (h : k ≤ xs.length) : cutV xs (some (k : Int)) none = xs.drop k := by
  unfold cutV
  rw [HT.sIx_nat, HT.sIx_none, Nat.min_eq_left h]
  exact List.take_of_length_le (by rw [List.length_drop]; omega)
theorem range_drop {α : Type} (f : Nat → α) (a m : Nat) : ((List.range (a + m)).map f).drop a = (List.range m).map fun k => f (a + k) := by
  refine List.ext_getElem? fun i => ?_
  rw [List.getElem?_drop, List.getElem?_map, List.getElem?_map]
  by_cases h : i < m
  · rw [List.getElem?_range h, List.getElem?_range (by omega)]; rfl
  · rw [List.getElem?_eq_none (by simpa using h), List.getElem?_eq_none (by simp; omega)]; rfl
/-- hands that are handed in -/
inductive HdR (B : Hp) (M : List (Addr × HO)) (rows : List (List Int)) : V → Bool → (Nat → Int) → Prop where
  | lst {a : Addr} {h0 : Nat → Int} (h : Stay B M a (lv rows.length h0)) (hh : Hands rows h0) : HdR B M rows (.ref a) true h0
  | bad {v : V} {h0 : Nat → Int} (h : NmsD B M (mosts rows) v false) : HdR B M rows v false h0
def roundW (rows : List (List Int)) (h0 : Nat → Int) (s ah m : Nat) : List (Nat × Int) := (List.range m).map fun k => way rows h0 s (ah + k)
def spRoundX (CW CN CH CP : Addr) : Sp := fun vs H Q E => ∃ (B : Hp) (M : List (Addr × HO)) (wa : Addr) (rows : List (List Int)) (v u : V) (b c : Bool) (h0 : Nat → Int), vs = [.ref wa, v, u] ∧ Hs B M H ∧ WebAt CW B wa rows ∧ Valid rows ∧ HdR B M rows v b h0 ∧ PlD B (rows.length : Nat) u c ∧
  (EvenW rows → b = true → c = true → ∀ (s m ah : Nat) (B' H' : Hp) (tq tl : Addr) (as : List Addr), u = .int s → s < rows.length → (m : Int) = ways rows → 0 < m → Rho rows h0 s m ah → Same B B' → B' tq = some (.tup [.int ah, .ref tl]) → WaysB B' as (roundW rows h0 s ah m) → Hs B' ((tl, .lst (as.map V.ref)) :: M) H' → Q (.ref tq) H') ∧
  (¬ EvenW rows → ∀ B' H', Same B B' → Hs B' M H' → E (.ref CN) none H') ∧
  (EvenW rows → b = false → ∀ B' H', Same B B' → Hs B' M H' → E (.ref CH) none H') ∧
  (EvenW rows → b = true → c = false → ∀ B' H', Same B B' → Hs B' M H' → E (.ref CP) none H')
-- round_of: 0 web, 1 hands, 2 place, 3 yard, 4 at, 5 steps, 6 met, 7 state, 8 ahead
abbrev s_round_of : Stmt := top 17
theorem sc_round_of : FnScope ["web", "hands", "place", "yard", "at", "steps", "met", "state", "ahead"] ["web", "hands", "place"] (defScope s_round_of) := ⟨rfl, rfl, rfl, by decide +kernel, rfl, by decide +kernel, by decide +kernel⟩
theorem put_one {h0 : Nat → Int} {s : Nat} : YS.put ⟨h0, zero, []⟩ s 1 = ⟨h0, one s, []⟩ := by
  have : put1 zero s (zero s + 1) = one s := by
    funext j
    unfold put1 one zero
    split <;> rfl
  show YS.mk h0 (put1 zero s (zero s + 1)) [] = _
  rw [this]
section
variable {P : Program} {w : World} {K : PySem.W.Frag} {mg : Str → Option Value} {base : Heap} {CY CW CN CH CP CC CS : Addr}
theorem ok_roundX (T : NamesY mg) (R_NotEven : ErrT K mg "NotEven" CN) (T_Web : Cls K CW) (T_Yard : Cls K CY) (G : Glo K mg "round_of" s_round_of) (C_Web_is_even : CalM P w K mg base CW "is_even" 6 ["self"] (spBool CW EvenW)) (XC_check_hands : CalX P w K mg base "check_hands" 6 ["web", "hands"] (spHandsX CW CH))
    (C_Yard : CalC P w K mg base CY "Yard" 5 ["self", "web", "hands"] (noE (spYInit CY CW CH))) (D_Yard_put : CalMd P w K mg base CY "put" 6 ["self", "place", "many"] [.int 1] (spPut CY CW CP CC)) (C_Yard_step : CalM P w K mg base CY "step" 6 ["self", "place"] (noE (spStep CY CW CP CS)))
    (C_Yard_hands : CalM P w K mg base CY "hands" 6 ["self"] (spRead CY CW Yd.h)) : CalX P w K mg base "round_of" 7 ["web", "hands", "place"] (spRoundX CW CN CH CP) := by
  refine G.calX (k := 6) sc_round_of (fun _ _ _ _ _ _ us hl => match us, hl with | [_, _, _], _ => rfl) (fun vs H Q E h => ?_) (fun f cdv A outer s H vs Q E hr h => ?_)
  · obtain ⟨B, M, wa, rows, v, u, b, c, h0, rfl, _⟩ := h; rfl
  obtain ⟨B, M, wa, rows, v, u, b, c, h0, rfl, S, hW, hv, hh, hu, hQ, hE1, hE2, hE3⟩ := h
  have hle := hv.le
  obtain ⟨dw, tw, hwa, _⟩ := id hW.ex
  refine ⟨_, (pss_cons (ps_if (pt_not (pt_val (pe_calM0 (pv 0) T_Web C_Web_is_even hr))) (pss_one (ps_raiseE R_NotEven rfl (takes_of rfl rfl rfl rfl) pe_str rfl)) pss_nil) (pss_cons (ps_expr (pe_calX XC_check_hands hr rfl (takes_of rfl rfl rfl rfl) (fun _ _ _ _ h => h) (pa_cons (pv 0) (pa_cons (pv 1) pa_nil)))) (pss_cons (ps_set (i := 3) sc_round_of.nd rfl (Or.inl rfl) (pe_mk C_Yard hr rfl (pa_cons (pv 0) (pa_cons (pv 1) pa_nil)))) (pss_cons (ps_expr (pe_calMdX (pv 3) T_Yard D_Yard_put hr (takes_of rfl rfl rfl rfl) (fun _ _ _ _ h => h) (pa_cons (pv 2) pa_nil))) (pss_cons (ps_set (i := 4) sc_round_of.nd rfl (Or.inl rfl) (pv 2)) (pss_cons (ps_set (i := 5) sc_round_of.nd rfl (Or.inl rfl) (pe_lst pa_nil)) (pss_cons (ps_set (i := 6) sc_round_of.nd rfl (Or.inl rfl) (pe_dnewN P w)) (pss_cons (ps_set (i := 7) sc_round_of.nd rfl (Or.inl rfl) (pe_tup (pa_cons (pv 4) (pa_cons (pe_callTy (k_tuple K) rfl T.n_tuple (by decide +kernel) (pa_cons (pv 1) pa_nil)) pa_nil)))) (pss_cons (ps_while (L2.passes_of rfl) (pt_cmpR (k_notInN P w hr.units) (pv 7) (pv 6) (by rfl)) (pss_cons (ps_asg (pe_callB (k_len K) rfl T.n_len boot_len (pa_cons (pv 5) pa_nil)) (pg_sub (pv 6) (pv 7) (set_dN P w hr.units))) (pss_cons (ps_expr (pe_bmK K PySem.F.plainAttrs_list PySem.F.slot_list_append PySem.F.type_list_append mt_append (pv 5) (pa_cons (pe_tup (pa_cons (pv 4) (pa_cons (pe_ix (k_ixL K) (pe_calM0 (pv 3) T_Yard C_Yard_hands hr) (pv 4) (fun _ _ => rfl)) pa_nil))) pa_nil))) (pss_cons (ps_set (i := 4) sc_round_of.nd rfl (Or.inl rfl) (pe_calM (pv 3) T_Yard C_Yard_step hr (pa_cons (pv 4) pa_nil))) (pss_one (ps_set (i := 7) sc_round_of.nd rfl (Or.inl rfl) (pe_tup (pa_cons (pv 4) (pa_cons (pe_callTy (k_tuple K) rfl T.n_tuple (by decide +kernel) (pa_cons (pe_calM0 (pv 3) T_Yard C_Yard_hands hr) pa_nil)) pa_nil))))))))) (pss_cons (ps_set (i := 8) sc_round_of.nd rfl (Or.inl rfl) (pe_dgetN P w hr.units (pv 6) (pv 7) (fun _ _ => rfl))) (pss_one (ps_ret (pe_tup (pa_cons (pv 8) (pa_cons (pe_slice (k_slL K) (pv 5) (po_some (pv 8)) po_none) pa_nil))))))))))))))), ?_⟩
  walk_at "go"
  refine w_methE (S.ex _ _ hwa) (look1n (by decide +kernel)) ?_
  walk_at "go"
  refine ⟨B, M, wa, rows, rfl, S, hW, hv, fun be H1 S1 hbe => ?_⟩
  cases be with
  | false =>
    have hne : ¬ EvenW rows := fun z => nomatch hbe.mpr z
    walk_at "go"
    refine iteT ?_
    walk_at "go"
    exact hE1 hne B H1 (Same.refl B) S1
  | true =>
  have he : EvenW rows := hbe.mp rfl
  clear S
  walk_at "go"
  refine iteF ?_
  walk_at "go"
  cases hh with
  | bad hbad =>
    exact ⟨B, M, wa, rows, v, false, rfl, S1, hW, hv, hbad, fun z => (nomatch z), fun _ B1 H2 e1 S2 => hE2 he rfl B1 H2 e1 S2⟩
  | @lst a h0 hst hH =>
  refine ⟨B, M, wa, rows, .ref a, true, rfl, S1, hW, hv, hands_good hst hH, fun _ B1 H2 e1 S2 => ?_, fun z => (nomatch z)⟩
  walk_at "go"
  refine w_makeXE S2 fun x dx2 H3 S3 => ?_
  refine ⟨B1, M, x, dx2, wa, rows, .ref a, true, h0, rfl, S3, hW.mono e1, hv, .lst (hst.up e1) hH, fun _ z B2 H4 ez _ e2 I _ S4 => ⟨rfl, ?_⟩, fun z => (nomatch z)⟩
  subst ez
  have S5 : Hs B2 (ycc rows z ⟨h0, zero, []⟩ [] ++ M) H4 := Hs.ycs S4 (fun v hv => (hx_zero hH hv).symm) (fun v _ => wx_zero.symm) (fun v _ => rfl)
  have e12 := e1.trans e2
  obtain ⟨dy, hdy⟩ := I.me
  clear S1 S2 S3 S4
  walk_at "go"
  refine w_methdE (S5.ex _ _ hdy) (lk0 (by decide +kernel) (by decide +kernel) (by decide +kernel) (by decide +kernel) (by decide +kernel) (by decide +kernel)) ?_
  walk_at "go"
  refine ⟨B2, M, z, rows, ⟨h0, zero, []⟩, [], u, .int 1, c, true, rfl, S5, I, hle, hu.mono e12, nmD_int (by decide) (by decide), fun hc _ s m' H5 eu em hs S6 => ?_, fun hc H5 S6 => ?_, fun _ z => (nomatch z)⟩
  rotate_left
  · subst hc
    exact hE3 he rfl rfl B2 H5 e12 ((((S6.drop 0).drop 0).drop 0).drop 0)
  subst hc eu
  cases em
  rw [put_one] at S6
  clear S5
  obtain ⟨hl, hb, hj⟩ := even_in hv he
  have hw24 := ways_le hv
  obtain ⟨m, hm⟩ : ∃ m : Nat, (m : Int) = ways rows := ⟨(ways rows).toNat, by omega⟩
  obtain ⟨hm0, ah, hr0⟩ := rho_ex (h0 := h0) hv hl hb hj hH hs hm
  have hm24 : m ≤ 24 := by omega
  have hah : ah ≤ 192 := by
    have h1 := hr0.le
    have : rows.length * m ≤ 8 * 24 := Nat.mul_le_mul hle hm24
    omega
  have good := hQ he rfl rfl s m ah
  walk_at "go"
  refine w_lst S6 (len_ok (by simp)) fun ls H6 S7 => ?_
  refine w_name ?_
  with_reducible refine w_seq ?_
  refine w_dnewN S7 fun d H7 S8 => ?_
  walk_at "go"
  refine w_tupL S8 (sqL_of ((hst.up e12).at (((((((S8.drop 0).drop 0).drop 0).drop 0).drop 0).drop 0)))) fun t1 H8 S9 => ?_
  walk_at "go"
  refine w_tup S9 (len_ok (by simp)) fun st H9 S10 => ?_
  obtain ⟨B3, e3, h3, S11⟩ := S10.shut 0
  obtain ⟨B4, e4, h4, S12⟩ := S11.shut 0
  have e34 := e3.trans e4
  have I := I.mono e34
  have hdy := e34 _ _ hdy
  have hk0 : KeyA B4 st ((pos rows h0 s 0 : Nat) : Int) (vec rows.length (hx rows h0 (odo rows h0 s 0))) := by
    refine ⟨t1, e4 _ _ h3, ?_⟩
    rw [show vec rows.length (hx rows h0 (odo rows h0 s 0)) = vec rows.length h0 from vec_congr fun v hv => hx_zero hH hv]
    exact h4
  clear S6 S7 S8 S9 S10 S11 h3 h4
  refine w_while (α := Nat × Hp × List (Nat × Nat) × List Addr × List Addr × List En) (fun α σ H => ∃ (sa : Addr), σ = [some (.ref wa), some (.ref a), some (.int (s : Nat)), some (.ref z.a), some (.int (pos rows h0 s α.1 : Nat)), some (.ref ls), some (.ref d), some (.ref sa), none] ∧
      Hs α.2.1 ((d, DN P w d α.2.2.2.2.2) :: (ls, .lst (α.2.2.2.2.1.map V.ref)) :: (ycc rows z ⟨h0, one s, α.2.2.1⟩ α.2.2.2.1 ++ M)) H ∧ Same B4 α.2.1 ∧ xsum α.2.2.1 = odo rows h0 s α.1 ∧ α.2.2.2.1.length = α.1 ∧ α.1 ≤ ah + m ∧ WaysB α.2.1 α.2.2.2.2.1 ((List.range α.1).map (way rows h0 s)) ∧
      KeyA α.2.1 sa ((pos rows h0 s α.1 : Nat) : Int) (vec rows.length (hx rows h0 (odo rows h0 s α.1))) ∧ α.2.2.2.2.2.length = α.1 ∧
      ∀ (k : Nat) (e : En), α.2.2.2.2.2[k]? = some e → e.i = ((pos rows h0 s k : Nat) : Int) ∧ e.hs = vec rows.length (hx rows h0 (odo rows h0 s k)) ∧ e.n = k ∧ KeyA α.2.1 e.a e.i e.hs)
    (fun α => ah + m + 1 - α.1) (0, B4, [], [], [], []) ⟨st, rfl, S12, Same.refl B4, rfl, rfl, Nat.zero_le _, .nil, hk0, rfl, fun k e h => by cases h⟩ ?_
  clear S12 hk0
  rintro ⟨j, B5, rs, ra, as, ks⟩ σ H10 ⟨sa, rfl, S, e5, hxs, hra, hjm, hws, hka, hks, hen⟩
  dsimp only at S e5 hxs hra hjm hws hka hks hen ⊢
  have I5 := I.mono e5
  have hdy5 := e5 _ _ hdy
  have hwl : as.length = j := by have := Paired.length hws; simpa using this
  have hkall : ∀ e ∈ ks, KeyA H10 e.a e.i e.hs := fun e h => by
    obtain ⟨k, hk⟩ := List.getElem?_of_mem h
    exact (hen k e hk).2.2.2.up S.ex
  have hmem : ∀ e, found ks ((pos rows h0 s j : Nat) : Int) (vec rows.length (hx rows h0 (odo rows h0 s j))) = some e → ∃ k : Nat, k < j ∧ e.n = k ∧ Sst rows h0 s k j := fun e h => by
    obtain ⟨h1, h2, h3⟩ := found_some h
    obtain ⟨k, hk⟩ := List.getElem?_of_mem h1
    obtain ⟨g1, g2, g3, _⟩ := hen k e hk
    have hkl : k < ks.length := (List.getElem?_eq_some_iff.mp hk).1
    exact ⟨k, by omega, g3, by omega, fun v hv => vec_inj (g2.symm.trans h3) v hv⟩
  walk_at "go"
  refine w_notInN (hka.up S.ex) (S.get 0) hkall ?_
  by_cases hend : j = ah + m
  · subst hend
    obtain ⟨e, hf, hn⟩ : ∃ e, found ks ((pos rows h0 s (ah + m) : Nat) : Int) (vec rows.length (hx rows h0 (odo rows h0 s (ah + m)))) = some e ∧ e.n = (ah : Nat) := by
      cases hf : found ks ((pos rows h0 s (ah + m) : Nat) : Int) (vec rows.length (hx rows h0 (odo rows h0 s (ah + m)))) with
      | some e =>
        obtain ⟨k, k1, k2, k3⟩ := hmem e hf
        refine ⟨e, rfl, ?_⟩
        have k4 : Sst rows h0 s k ah := k3.trans hr0.again.symm
        rcases Nat.lt_trichotomy k ah with c | c | c
        · exact absurd k4 (hr0.new k ah c (by omega))
        · rw [k2, c]
        · exact absurd k4.symm (hr0.new ah k c k1)
      | none =>
        obtain ⟨e, he⟩ : ∃ e, ks[ah]? = some e := ⟨_, List.getElem?_eq_getElem (by omega)⟩
        obtain ⟨g1, g2, _, _⟩ := hen ah e he
        have := List.find?_eq_none.mp hf e (List.mem_of_getElem? he)
        refine absurd (decide_eq_true ⟨?_, ?_⟩) this
        · rw [g1, hr0.again.1]
        · rw [g2]
          exact vec_congr hr0.again.2
    rw [hf, show (!(some e : Option En).isSome) = false from rfl]
    walk_at "go"
    refine iteF ?_
    walk_at "go"
    refine ⟨sa, d, _, _, ks, e, rfl, rfl, hka.up S.ex, S.get 0, hkall, hf, ?_⟩
    rw [hn]
    walk_at "go"
    refine w_slice S (sqL_of (S.get 1)) fun zl H11 S1 => ?_
    rw [cut_lo (by simp; omega), ← List.map_drop] at S1
    walk_at "go"
    refine w_tup S1 (len_ok (by simp)) fun tq H12 S2 => ?_
    obtain ⟨B6, e6, htq, S3⟩ := S2.shut 0
    refine good B6 H12 tq zl (as.drop ah) rfl hs hm hm0 hr0 (e12.trans (e34.trans (e5.trans e6))) htq ?_ ?_
    · have := Paired.dropP ah (hws.up e6)
      rw [range_drop] at this
      exact this
    · exact (((((S3.drop 1).drop 1).drop 1).drop 1).drop 1).drop 1
  · have hnone : found ks ((pos rows h0 s j : Nat) : Int) (vec rows.length (hx rows h0 (odo rows h0 s j))) = none := by
      cases hf : found ks ((pos rows h0 s j : Nat) : Int) (vec rows.length (hx rows h0 (odo rows h0 s j))) with
      | none => rfl
      | some e =>
        obtain ⟨k, k1, _, k3⟩ := hmem e hf
        exact absurd k3 (hr0.new k j k1 (by omega))
    rw [hnone, show (!(none : Option En).isSome) = true from rfl]
    walk_at "go"
    refine iteT (whb ?_)
    walk_at "go"
    refine w_len (sqL_of (S.get 1)) ?_
    rw [List.length_map, hwl]
    walk_at "go"
    refine w_setN (n := (j : Nat)) S 0 rfl (hka.up S.ex) hkall hnone (by omega) fun H11 S1 => ?_
    clear S
    have hp := pos_lt (h0 := h0) hv hl hs j
    walk_at "go"
    refine ⟨tyL (sqL_of (S1.get 1)), ?_⟩
    walk_at "go"
    refine w_methE (S1.ex _ _ hdy5) (lk0 (by decide +kernel) (by decide +kernel) (by decide +kernel) (by decide +kernel) (by decide +kernel) (by decide +kernel)) ?_
    walk_at "go"
    refine ⟨B5, _, z, rows, hx rows h0 (odo rows h0 s j), rows.length, 2, rfl, S1, I5, by rw [← hxs]; rfl, fun p1 H12 S2 => ?_⟩
    walk_at "go"
    refine w_ixL (sqL_of (S2.get 0)) (atI_nat (vec_getV hp)) ?_
    have S2 := S2.drop 0
    walk_at "go"
    refine w_tup S2 (len_ok (by simp)) fun tp H13 S3 => ?_
    walk_at "go"
    refine w_append S3 2 rfl (len_lt (by simp; omega)) fun H14 S4 => ?_
    obtain ⟨B6, e6, htp, S5⟩ := S4.shut 0
    have I6 := I5.mono e6
    have hdy6 := e6 _ _ hdy5
    clear S1 S2 S3 S4
    walk_at "go"
    refine w_methE (S5.ex _ _ hdy6) (lk0 (by decide +kernel) (by decide +kernel) (by decide +kernel) (by decide +kernel) (by decide +kernel) (by decide +kernel)) ?_
    walk_at "go"
    have S6 := Hs.swap (A := [_, _]) (C := ycc rows z ⟨h0, one s, rs⟩ ra) (M := M) S5
    have hwx : wx rows h0 (one s) (odo rows h0 s j) (pos rows h0 s j) = 1 := by rw [wk_wx hv hl hs]; unfold one; rw [if_pos rfl]
    refine ⟨B6, _, z, rows, ⟨h0, one s, rs⟩, ra, .int (pos rows h0 s j : Nat), true, rfl, S6, I6, hv, plD_int (by omega) (by omega), fun _ i ei hi => .inr ?_, fun z => (nomatch z)⟩
    obtain rfl : pos rows h0 s j = i := by have := V.int.inj ei; omega
    refine ⟨hl _ hp, by show wx rows h0 (one s) (xsum rs) _ ≠ 0; rw [hxs, hwx]; decide, by omega, fun B7 tq H15 e7 htq S7 => ?_⟩
    have I7 := I6.mono e7
    have hdy7 := e7 _ _ hdy6
    have hxs' : xsum (rs ++ [(pos rows h0 s j, 1)]) = odo rows h0 s (j + 1) := by rw [xsum_snoc, hxs]; rfl
    have hpt : ptx rows h0 (xsum rs) (pos rows h0 s j) = ((pos rows h0 s (j + 1) : Nat) : Int) := by rw [hxs, pos_succ hv hl hs]
    have hpt' : ptx rows (YS.mk h0 (one s) rs).h0 (YS.mk h0 (one s) rs).x (pos rows h0 s j) = ((pos rows h0 s (j + 1) : Nat) : Int) := hpt
    rw [hpt']
    have S8 := Hs.swap (A := ycc rows z ⟨h0, one s, rs ++ [(pos rows h0 s j, 1)]⟩ (ra ++ [tq])) (C := [_, _]) (M := M) S7
    clear S5 S6 S7
    walk_at "go"
    refine w_methE (S8.ex _ _ hdy7) (lk0 (by decide +kernel) (by decide +kernel) (by decide +kernel) (by decide +kernel) (by decide +kernel) (by decide +kernel)) ?_
    walk_at "go"
    refine ⟨B7, _, z, rows, hx rows h0 (odo rows h0 s (j + 1)), rows.length, 2, rfl, S8, I7, by rw [← hxs']; rfl, fun p2 H16 S9 => ?_⟩
    walk_at "go"
    refine w_tupL S9 (sqL_of (S9.get 0)) fun t2 H17 S10 => ?_
    walk_at "go"
    refine w_tup S10 (len_ok (by simp)) fun sb H18 S11 => ?_
    obtain ⟨B8, e8, h8, S12⟩ := S11.shut 0
    obtain ⟨B9, e9, h9, S13⟩ := S12.shut 0
    have S14 := S13.drop 0
    have e79 := e7.trans (e8.trans e9)
    clear S8 S9 S10 S11 S12 S13
    walk_at "go"
    refine ⟨(j + 1, B9, rs ++ [(pos rows h0 s j, 1)], ra ++ [tq], as ++ [tp], ks ++ [⟨((pos rows h0 s j : Nat) : Int), vec rows.length (hx rows h0 (odo rows h0 s j)), sa, (j : Nat)⟩]), by show ah + m + 1 - (j + 1) < ah + m + 1 - j; omega, sb, rfl, ?_, e5.trans (e6.trans e79), hxs', by simp [hra], by show j + 1 ≤ ah + m; omega, ?_, ⟨t2, e9 _ _ h8, h9⟩, by simp [hks], fun k e hk => ?_⟩
    · rw [List.map_append]
      exact S14
    · rw [List.range_succ, List.map_append]
      exact (hws.up (e6.trans e79)).push (e79 _ _ htp)
    · by_cases hkl : k < ks.length
      · rw [List.getElem?_append_left hkl] at hk
        obtain ⟨g1, g2, g3, g4⟩ := hen k e hk
        exact ⟨g1, g2, g3, g4.up (e6.trans e79)⟩
      · have hk1 := (List.getElem?_eq_some_iff.mp hk).1
        simp at hk1
        obtain rfl : k = j := by omega
        rw [List.getElem?_append_right (by omega), hks, Nat.sub_self] at hk
        cases hk
        exact ⟨rfl, rfl, rfl, hka.up (e6.trans e79)⟩
end
end Rw

namespace Rw
open PySem PySem.Spec PyProof.Rows L2
local macro_rules | `(tactic| walk_at "go1") => `(tactic| first
  | (with_reducible refine w_seq ?_)
  | (with_reducible refine w_asg ?_)
  | (with_reducible refine w_name ?_)
  | (with_reducible refine w_drop ?_)
  | (with_reducible refine w_ret ?_)
  | (with_reducible refine w_next ?_)
  | (with_reducible refine w_op ?_)
  | (with_reducible refine w_un ?_)
  | (with_reducible refine w_c ?_)
  | (with_reducible refine w_var (by with_unfolding_all rfl) ?_)
  | (with_reducible refine w_rI0 ?_)
  | (with_reducible refine w_rU ?_)
  | ((with_reducible refine w_mod ?_ ?_); (show (0 : Int) < _); omega)
  | ((with_reducible refine w_div ?_ ?_); exact And.intro (by omega) (by omega))
  | ((with_reducible refine w_mul ?_ ?_); (first | exact Or.inl (And.intro (by omega) (by omega)) | exact Or.inr (And.intro (by omega) (by omega))))
  | (with_reducible refine w_ifS ?_)
  | (with_reducible refine w_if ?_)
  | (with_reducible refine w_test ?_)
  | (with_reducible refine w_B ?_)
  | (with_reducible refine w_bl ?_)
  | (with_reducible refine w_not ?_)
  | (with_reducible refine w_and ?_)
  | (with_reducible refine w_or ?_)
  | (with_reducible refine w_cons ?_)
  | (with_reducible refine w_nil ?_)
  | (with_reducible refine w_call ?_)
  | (with_reducible refine w_cb ?_)
  | (with_reducible refine w_bm0 ?_)
  | (with_reducible refine w_bm ?_)
  | (with_reducible refine w_tlst ?_)
  | (with_reducible refine w_ttup ?_)
  | (with_reducible refine w_sub ?_)
  | (with_reducible refine w_for ?_)
  | (with_reducible refine w_rng1 ?_)
  | ((with_reducible refine w_rngE ?_ ?_ ?_); omega; omega)
  | (with_reducible refine w_iL ?_)
  | (with_reducible refine w_iT ?_)
  | (with_reducible refine w_iE ?_)
  | (with_reducible refine w_iZ ?_)
  | (with_reducible refine w_lc ?_)
  | (with_reducible refine w_yes ?_)
  | (with_reducible refine w_gcons ?_)
  | (with_reducible refine w_gnil ?_)
  | (with_reducible refine w_max2 ?_)
  | (with_reducible refine w_sl ?_)
  | (with_reducible refine w_part ?_)
  | (with_reducible refine w_partI ?_)
  | (with_reducible refine w_nopart ?_)
  | (with_reducible refine w_isT ?_)
  | (with_reducible refine w_notT ?_)
  | (with_reducible refine w_isB ?_)
  | (with_reducible refine w_notB ?_)
  | (with_reducible refine w_isN ?_)
  | (with_reducible refine w_notN ?_)
  | (with_reducible refine w_fld ?_)
  | (with_reducible refine w_ftm ?_)
  | (with_reducible refine w_lrg ?_)
  | (with_reducible refine w_rg1 ?_)
  | (with_reducible refine w_rg1E ?_)
  | (with_reducible refine w_tru ?_)
  | (with_reducible refine w_truB ?_)
  | (with_reducible refine w_truI ?_)
  | (with_reducible refine w_notT' ?_)
  | (with_reducible refine w_andT ?_)
  | (with_reducible refine w_orT ?_)
  | (with_reducible refine w_andV ?_)
  | (with_reducible refine w_orV ?_)
  | (with_reducible refine w_andE ?_)
  | (with_reducible refine w_orE ?_)
  | (with_reducible refine w_notV ?_)
  | (with_reducible refine w_notE ?_)
  | (with_reducible refine w_chain ?_)
  | (with_reducible refine w_chainI ?_)
  | (with_reducible refine w_meth ?_)
  | (with_reducible refine w_make ?_)
  | (with_reducible refine w_sfld ?_))
local macro_rules | `(tactic| walk_at "go") => `(tactic| repeat walk_at "go1")

/-! ### the law's own steps -/
structure NamesL (mg : Str → Option Value) : Prop extends Names mg where
  n_bool : mg "bool" = none
  n_isinstance : mg "isinstance" = none
def spNumbers : Sp := fun vs H Q _ => ∃ (B : Hp) (M : List (Addr × HO)) (p : Addr) (ns : List Int), vs = [.ref p] ∧ Hs B M H ∧ Stay B M p (.lst (ns.map V.int)) ∧ ns.length ≤ 1000 ∧ ∀ H', Hs B M H' → Q (.bl true) H'
def handsOf (rows : List (List Int)) (c k : Int) : Nat → Int := fun i => mixed c (k + (i : Int)) % if (((rowOf rows i).length : Nat) : Int) > 1 then (((rowOf rows i).length : Nat) : Int) else 1
theorem handsOf_ok (rows : List (List Int)) (c k : Int) : Hands rows (handsOf rows c k) := fun i _ => by
  unfold handsOf degOf
  split
  · rename_i h
    exact ⟨Int.emod_nonneg _ (by omega), .inl (Int.emod_lt_of_pos _ (by omega))⟩
  · exact ⟨Int.emod_nonneg _ (by omega), .inr (Int.emod_one _)⟩
def spHandsL : Sp := fun vs H Q _ => ∃ (B : Hp) (M : List (Addr × HO)) (a : Addr) (rows : List (List Int)) (c k : Int), vs = [.ref a, .int c, .int k] ∧ Hs B M H ∧ LL B a rows ∧ rows.length ≤ 8 ∧ 0 ≤ k ∧ k ≤ 10000 ∧ ∀ p H', Hs B ((p, lv rows.length (handsOf rows c k)) :: M) H' → Q (.ref p) H'
def stepW (rows : List (List Int)) (f g : Nat → Int) (i : Nat) : Nat → Int := fun v => g v - (if v = i then 1 else 0) + (if (rowOf rows i).getD (f i).toNat (-1) = v then 1 else 0)
def spStepL : Sp := fun vs H Q _ => ∃ (B : Hp) (M : List (Addr × HO)) (a h s : Addr) (rows : List (List Int)) (f g : Nat → Int) (i : Nat), vs = [.ref a, .ref h, .ref s, .int i] ∧ Hs B ((h, lv rows.length f) :: (s, lv rows.length g) :: M) H ∧ LL B a rows ∧ Valid rows ∧ i < rows.length ∧ 0 < degOf rows i ∧ 0 ≤ f i ∧ f i < (degOf rows i : Nat) ∧
  ∀ H', Hs B ((h, lv rows.length (put1 f i ((f i + 1) % (degOf rows i : Nat)))) :: (s, lv rows.length (stepW rows f g i)) :: M) H' → Q (.int ((rowOf rows i).getD (f i).toNat (-1))) H'
/-- the places from which a walker may step -/
def ableTo (rows : List (List Int)) (g : Nat → Int) (n : Nat) : List Int := ((List.range n).filter fun i => decide (0 < g i) && !(rowOf rows i).isEmpty).map fun i : Nat => (i : Int)
def able (rows : List (List Int)) (g : Nat → Int) : List Int := ableTo rows g rows.length
theorem mem_able {rows : List (List Int)} {g : Nat → Int} {x : Int} : x ∈ able rows g ↔ ∃ i : Nat, x = i ∧ i < rows.length ∧ 0 < g i ∧ 0 < degOf rows i := by
  unfold able ableTo degOf
  rw [List.mem_map]
  constructor
  · rintro ⟨i, hi, rfl⟩
    obtain ⟨h1, h2⟩ := List.mem_filter.mp hi
    rw [Bool.and_eq_true] at h2
    refine ⟨i, rfl, List.mem_range.mp h1, of_decide_eq_true h2.1, ?_⟩
    have := h2.2
    cases hr : rowOf rows i with
    | nil => rw [hr] at this; simp at this
    | cons x r => simp
  · rintro ⟨i, rfl, h1, h2, h3⟩
    refine ⟨i, List.mem_filter.mpr ⟨List.mem_range.mpr h1, ?_⟩, rfl⟩
    rw [Bool.and_eq_true]
    refine ⟨decide_eq_true h2, ?_⟩
    cases hr : rowOf rows i with
    | nil => rw [hr] at h3; simp at h3
    | cons x r => rfl
def spAble : Sp := fun vs H Q _ => ∃ (B : Hp) (M : List (Addr × HO)) (a s : Addr) (rows : List (List Int)) (g : Nat → Int), vs = [.ref a, .ref s] ∧ Hs B M H ∧ LL B a rows ∧ rows.length ≤ 8 ∧ Stay B M s (lv rows.length g) ∧ ∀ p H', Hs B ((p, .lst ((able rows g).map V.int)) :: M) H' → Q (.ref p) H'
def spIsSo (CY CW : Addr) : Sp := fun vs H Q _ => ∃ (B : Hp) (M : List (Addr × HO)) (z : Yd) (rows : List (List Int)) (n : Nat) (f g l : Nat → Int) (j1 j2 j3 : Nat) (a1 a2 a3 : Addr), vs = [.ref z.a, .ref a1, .ref a2, .ref a3] ∧ Hs B M H ∧ YdI CY CW B rows z ∧ n ≤ 1000 ∧ M[j1]? = some (z.l, lv n l) ∧ M[j2]? = some (z.h, lv n f) ∧ M[j3]? = some (z.k, lv n g) ∧
  Stay B M a1 (lv n l) ∧ Stay B M a2 (lv n f) ∧ Stay B M a3 (lv n g) ∧ ∀ H', Hs B M H' → Q (.bl true) H'
-- _law_hands: 0 _law_rows_here, 1 _law_cell, 2 _law_k, 3 _law_found, 4 _law_place, 5 _law_row
abbrev s_law_hands : Stmt := top 30
theorem sc_law_hands : FnScope ["_law_rows_here", "_law_cell", "_law_k", "_law_found", "_law_place", "_law_row"] ["_law_rows_here", "_law_cell", "_law_k"] (defScope s_law_hands) := ⟨rfl, rfl, rfl, by decide +kernel, rfl, by decide +kernel, by decide +kernel⟩
-- _law_step: 0 _law_rows_here, 1 _law_hands_here, 2 _law_standing, 3 _law_place, 4 _law_other
abbrev s_law_step : Stmt := top 31
theorem sc_law_step : FnScope ["_law_rows_here", "_law_hands_here", "_law_standing", "_law_place", "_law_other"] ["_law_rows_here", "_law_hands_here", "_law_standing", "_law_place"] (defScope s_law_step) := ⟨rfl, rfl, rfl, by decide +kernel, rfl, by decide +kernel, by decide +kernel⟩
section
variable {P : Program} {w : World} {K : PySem.W.Frag} {mg : Str → Option Value} {base : Heap} {CY CW : Addr}
theorem ok_handsL (T : NamesL mg) (G : Glo K mg "_law_hands" s_law_hands) (C_law_mixed : Cal P w K mg base "_law_mixed" 1 ["_law_cell", "_law_k"] spMixed) : Cal P w K mg base "_law_hands" 2 ["_law_rows_here", "_law_cell", "_law_k"] spHandsL := by
  refine G.cal (k := 1) sc_law_hands (fun _ _ _ _ _ _ us hl => match us, hl with | [_, _, _], _ => rfl) (fun vs H Q E h => ?_) (fun f cdv A outer s H vs Q E hr h => ?_)
  · obtain ⟨B, M, a, rows, c, k, rfl, _⟩ := h; rfl
  obtain ⟨B, M, a, rows, c, k, rfl, S, ⟨as, ha, hR⟩, hle, k0, k1, hQ⟩ := h
  have hal := hR.length
  refine ⟨_, (pss_cons (ps_set (i := 3) sc_law_hands.nd rfl (Or.inl rfl) (pe_lst pa_nil)) (pss_cons (ps_for PassesOwn.never rfl (pi_enumK K rfl T.n_enumerate (pa_cons (pv 0) pa_nil)) (pg_tupK (n := 2) K rfl (pgs_cons (pg_name (i := 4) sc_law_hands.nd rfl (Or.inl rfl)) (pgs_cons (pg_name (i := 5) sc_law_hands.nd rfl (Or.inl rfl)) pgs_nil))) (pss_one (ps_expr (pe_bmK K PySem.F.plainAttrs_list PySem.F.slot_list_append PySem.F.type_list_append mt_append (pv 3) (pa_cons (pe_op op_mod (pe_cal C_law_mixed hr rfl (pa_cons (pv 1) (pa_cons (pe_op op_add (pv 2) (pv 4)) pa_nil))) (pe_callB (call_max2X rfl) rfl T.n_max (by decide +kernel) (pa_cons pe_int (pa_cons (pe_callB (k_len K) rfl T.n_len boot_len (pa_cons (pv 5) pa_nil)) pa_nil)))) pa_nil))))) (pss_one (ps_ret (pv 3))))), ?_⟩
  walk_at "go"
  refine w_lst S (len_ok (by simp)) fun p H1 S1 => ?_
  walk_at "go"
  refine w_iEE (sqL_of (S1.ex _ _ ha)) ?_
  refine for_enu (xs := as.map V.ref) (fun i σ H => ∃ v4 v5 : Option V, σ = [some (.ref a), some (.int c), some (.int k), some (.ref p), v4, v5] ∧ Hs B ((p, .lst ((vec i (handsOf rows c k)).map V.int)) :: M) H)
    ⟨none, none, rfl, S1⟩ (fun i σ H _ ⟨_, _, _, S2⟩ => sqL_of (S2.ex _ _ ha)) ?_ ?_
  · rintro i x σ H2 T0 hx ⟨v4, v5, rfl, S2⟩ hT0
    obtain ⟨b, hb, rfl⟩ : ∃ b, as[i]? = some b ∧ V.ref b = x := by simpa using hx
    have hil : i < as.length := (List.getElem?_eq_some_iff.mp hb).1
    have hir : i < rows.length := by omega
    obtain ⟨b', h1, h2⟩ := hR.get (rowOf_get hir)
    rw [hb] at h1; cases h1
    have S3 := S2.new hT0 (.tup [.int (i : Int), .ref b])
    generalize upd H2 T0 (.tup [.int (i : Int), .ref b]) = H3 at S3
    refine w_gtup (sqT_of (S3.get 0)) rfl ?_
    have S3 := S3.drop 0
    walk_at "go"
    refine ⟨tyL (sqL_of (S3.get 0)), ?_⟩
    walk_at "go"
    refine ⟨_, _, rfl, by omega, by omega, ?_⟩
    walk_at "go"
    refine w_len (sqL_of (S3.ex _ _ h2)) ?_
    rw [List.length_map]
    walk_at "go"
    refine w_append S3 0 rfl (len_lt (by simp; omega)) fun H4 S4 => ?_
    refine ⟨_, _, rfl, ?_⟩
    have eh : handsOf rows c k i = mixed c (k + (i : Int)) % if (((rowOf rows i).length : Nat) : Int) > 1 then (((rowOf rows i).length : Nat) : Int) else 1 := rfl
    rw [vec_succ, List.map_append, eh]
    exact S4
  · rintro σ H2 ⟨v4, v5, rfl, S2⟩
    walk_at "go"
    rw [List.length_map, hal] at S2
    exact hQ p H2 S2
theorem ok_stepL (T : NamesL mg) (G : Glo K mg "_law_step" s_law_step) : Cal P w K mg base "_law_step" 1 ["_law_rows_here", "_law_hands_here", "_law_standing", "_law_place"] spStepL := by
  refine G.cal (k := 0) sc_law_step (fun _ _ _ _ _ _ us hl => match us, hl with | [_, _, _, _], _ => rfl) (fun vs H Q E h => ?_) (fun f cdv A outer s H vs Q E hr h => ?_)
  · obtain ⟨B, M, a, h, s, rows, f, g, i, rfl, _⟩ := h; rfl
  obtain ⟨B, M, a, h, s, rows, f, g, i, rfl, S, ⟨as, ha, hR⟩, hv, hi, hd, f0, f1, hQ⟩ := h
  obtain ⟨b, h1, h2⟩ := hR.get (rowOf_get hi)
  have hai : (as.map V.ref)[i]? = some (.ref b) := by rw [List.getElem?_map, h1]; rfl
  have hp : (rowOf rows i)[(f i).toNat]? = some ((rowOf rows i).getD (f i).toNat (-1)) := by
    have a3 : (f i).toNat < (rowOf rows i).length := by unfold degOf at f1; omega
    rw [List.getD_eq_getElem?_getD, List.getElem?_eq_getElem a3]; rfl
  obtain ⟨k, ek, hk⟩ := row_pos hv hi hp
  refine ⟨_, (pss_cons (ps_set (i := 4) sc_law_step.nd rfl (Or.inl rfl) (pe_ix (k_ixL K) (pe_ix (k_ixL K) (pv 0) (pv 3) (fun _ _ => rfl)) (pe_ix (k_ixL K) (pv 1) (pv 3) (fun _ _ => rfl)) (fun _ _ => rfl))) (pss_cons (ps_asg (pe_op op_mod (pe_op op_add (pe_ix (k_ixL K) (pv 1) (pv 3) (fun _ _ => rfl)) pe_int) (pe_callB (k_len K) rfl T.n_len boot_len (pa_cons (pe_ix (k_ixL K) (pv 0) (pv 3) (fun _ _ => rfl)) pa_nil))) (pg_sub (pv 1) (pv 3) set_list)) (pss_cons (ps_asg (pe_op op_sub (pe_ix (k_ixL K) (pv 2) (pv 3) (fun _ _ => rfl)) pe_int) (pg_sub (pv 2) (pv 3) set_list)) (pss_cons (ps_asg (pe_op op_add (pe_ix (k_ixL K) (pv 2) (pv 4) (fun _ _ => rfl)) pe_int) (pg_sub (pv 2) (pv 4) set_list)) (pss_one (ps_ret (pv 4))))))), ?_⟩
  walk_at "go"
  refine w_ixL (sqL_of (S.ex _ _ ha)) (atI_nat hai) ?_
  walk_at "go"
  refine w_ixL (sqL_of (S.get 0)) (atI_nat (vec_getV hi)) ?_
  refine w_ixL (v := .int k) (sqL_of (S.ex _ _ h2)) (at_of (j := (f i).toNat) (by omega) (by rw [List.getElem?_map, hp, ek]; rfl)) ?_
  walk_at "go"
  refine w_ixL (sqL_of (S.get 0)) (atI_nat (vec_getV hi)) ?_
  walk_at "go"
  refine w_ixL (sqL_of (S.ex _ _ ha)) (atI_nat hai) ?_
  walk_at "go"
  refine w_len (sqL_of (S.ex _ _ h2)) ?_
  rw [List.length_map]
  refine w_mod (by show (0 : Int) < (degOf rows i : Nat); omega) ?_
  walk_at "go"
  refine w_setL S 0 rfl (n := i) (ixN_nat (by simp; omega)) fun H1 S1 => ?_
  rw [vec_setV hi] at S1
  walk_at "go"
  refine w_ixL (sqL_of (S1.get 1)) (atI_nat (vec_getV hi)) ?_
  walk_at "go"
  refine w_setL S1 1 rfl (n := i) (ixN_nat (by simp; omega)) fun H2 S2 => ?_
  rw [vec_setV hi] at S2
  walk_at "go"
  refine w_ixL (sqL_of (S2.get 1)) (atI_nat (vec_getV hk)) ?_
  walk_at "go"
  refine w_setL S2 1 rfl (n := k) (ixN_nat (by simp; omega)) fun H3 S3 => ?_
  rw [vec_setV hk] at S3
  walk_at "go"
  rw [ek] at hQ
  refine hQ H3 ?_
  have e : vec rows.length (stepW rows f g i) = vec rows.length (put1 (put1 g i (g i - 1)) k (put1 g i (g i - 1) k + 1)) := vec_congr fun v _ => by
    unfold stepW put1
    rw [ek]
    by_cases h : v = i
    · subst h
      by_cases h2 : v = k
      · subst h2; simp
      · have h2' : ¬ (k : Int) = (v : Int) := fun e => h2 (by omega)
        simp [h2, h2']
    · by_cases h2 : v = k
      · subst h2; simp [h]
      · have h2' : ¬ (k : Int) = (v : Int) := fun e => h2 (by omega)
        simp [h, h2, h2']
  unfold lv
  rw [e]
  exact S3
end
end Rw

namespace Rw
open PySem PySem.Spec PyProof.Rows L2
local macro_rules | `(tactic| walk_at "go1") => `(tactic| first
  | (with_reducible refine w_seq ?_)
  | (with_reducible refine w_asg ?_)
  | (with_reducible refine w_name ?_)
  | (with_reducible refine w_drop ?_)
  | (with_reducible refine w_ret ?_)
  | (with_reducible refine w_next ?_)
  | (with_reducible refine w_op ?_)
  | (with_reducible refine w_un ?_)
  | (with_reducible refine w_c ?_)
  | (with_reducible refine w_var (by with_unfolding_all rfl) ?_)
  | (with_reducible refine w_rI0 ?_)
  | (with_reducible refine w_rU ?_)
  | ((with_reducible refine w_mod ?_ ?_); (show (0 : Int) < _); omega)
  | ((with_reducible refine w_div ?_ ?_); exact And.intro (by omega) (by omega))
  | ((with_reducible refine w_mul ?_ ?_); (first | exact Or.inl (And.intro (by omega) (by omega)) | exact Or.inr (And.intro (by omega) (by omega))))
  | (with_reducible refine w_ifS ?_)
  | (with_reducible refine w_if ?_)
  | (with_reducible refine w_test ?_)
  | (with_reducible refine w_B ?_)
  | (with_reducible refine w_bl ?_)
  | (with_reducible refine w_not ?_)
  | (with_reducible refine w_and ?_)
  | (with_reducible refine w_or ?_)
  | (with_reducible refine w_cons ?_)
  | (with_reducible refine w_nil ?_)
  | (with_reducible refine w_call ?_)
  | (with_reducible refine w_cb ?_)
  | (with_reducible refine w_bm0 ?_)
  | (with_reducible refine w_bm ?_)
  | (with_reducible refine w_tlst ?_)
  | (with_reducible refine w_ttup ?_)
  | (with_reducible refine w_sub ?_)
  | (with_reducible refine w_for ?_)
  | (with_reducible refine w_rng1 ?_)
  | ((with_reducible refine w_rngE ?_ ?_ ?_); omega; omega)
  | (with_reducible refine w_iL ?_)
  | (with_reducible refine w_iT ?_)
  | (with_reducible refine w_iE ?_)
  | (with_reducible refine w_iZ ?_)
  | (with_reducible refine w_lc ?_)
  | (with_reducible refine w_yes ?_)
  | (with_reducible refine w_gcons ?_)
  | (with_reducible refine w_gnil ?_)
  | (with_reducible refine w_max2 ?_)
  | (with_reducible refine w_sl ?_)
  | (with_reducible refine w_part ?_)
  | (with_reducible refine w_partI ?_)
  | (with_reducible refine w_nopart ?_)
  | (with_reducible refine w_isT ?_)
  | (with_reducible refine w_notT ?_)
  | (with_reducible refine w_isB ?_)
  | (with_reducible refine w_notB ?_)
  | (with_reducible refine w_isN ?_)
  | (with_reducible refine w_notN ?_)
  | (with_reducible refine w_fld ?_)
  | (with_reducible refine w_ftm ?_)
  | (with_reducible refine w_lrg ?_)
  | (with_reducible refine w_rg1 ?_)
  | (with_reducible refine w_rg1E ?_)
  | (with_reducible refine w_tru ?_)
  | (with_reducible refine w_truB ?_)
  | (with_reducible refine w_truI ?_)
  | (with_reducible refine w_notT' ?_)
  | (with_reducible refine w_andT ?_)
  | (with_reducible refine w_orT ?_)
  | (with_reducible refine w_andV ?_)
  | (with_reducible refine w_orV ?_)
  | (with_reducible refine w_andE ?_)
  | (with_reducible refine w_orE ?_)
  | (with_reducible refine w_notV ?_)
  | (with_reducible refine w_notE ?_)
  | (with_reducible refine w_chain ?_)
  | (with_reducible refine w_chainI ?_)
  | (with_reducible refine w_meth ?_)
  | (with_reducible refine w_make ?_)
  | (with_reducible refine w_sfld ?_))
local macro_rules | `(tactic| walk_at "go") => `(tactic| repeat walk_at "go1")

/-! ### what stands is changed, known anew -/
section
variable {B B1 H : Hp} {M : List (Addr × HO)} {a : Addr} {o o' : HO} {xs : List V} {y : V} {Q : VK}
theorem Hs.over (S : Hs B M H) (h : B a = some o) (o' : HO) : Hs (upd B a o') M (upd H a o') := by
  refine ⟨fun b u e => ?_, fun c hc => ?_, S.nd⟩
  · by_cases hb : b = a
    · subst hb
      rw [upd_same] at e ⊢
      exact e
    · rw [upd_ne hb] at e ⊢
      exact S.ex b u e
  · obtain ⟨h1, h2⟩ := S.cel c hc
    have hn : c.1 ≠ a := fun e => by rw [e, h] at h1; cases h1
    exact ⟨by rw [upd_ne hn]; exact h1, by rw [upd_ne hn]; exact h2⟩
theorem Same.updO (e : Same B1 B) (h : B1 a = none) : Same B1 (upd B a o) := fun b u q => by
  rw [upd_ne (ne_of_none q h)]
  exact e b u q
theorem w_appendB (S : Hs B M H) (h : B a = some (.lst xs)) (hl : xs.length < sizeLine) (k : ∀ H', Hs (upd B a (.lst (xs ++ [y]))) M H' → Q .non H') : rAppend (.ref a) [y] H Q :=
  ⟨a, xs, y, rfl, rfl, S.ex _ _ h, hl, k _ (S.over h _)⟩
theorem w_insertB {j : Int} (S : Hs B M H) (h : B a = some (.lst xs)) (hl : xs.length < sizeLine) (h0 : 0 ≤ j) (h1 : j < 2 ^ 63) (k : ∀ H', Hs (upd B a (.lst (xs.take j.toNat ++ [y] ++ xs.drop j.toNat))) M H' → Q .non H') : rInsX (.ref a) [.int j, y] H Q :=
  ⟨a, xs, j, y, rfl, rfl, S.ex _ _ h, hl, h0, h1, k _ (S.over h _)⟩
theorem LR.off : ∀ {as : List Addr} {R : List (List Int)}, LR B as R → a ∉ as → LR (upd B a o) as R
  | _, _, .nil, _ => .nil
  | _, _, .cons r t, h => .cons ((upd_ne (fun q => h (by rw [← q]; exact List.mem_cons_self))).trans r) (LR.off t fun q => h (List.mem_cons_of_mem _ q))
theorem LR.upd : ∀ {as : List Addr} {R : List (List Int)} {i : Nat} {r : List Int}, LR B as R → as.Nodup → as[i]? = some a → LR (L2.upd B a (.lst (r.map V.int))) as (R.set i r)
  | _, _, _, _, .nil, _, h => by simp at h
  | _, _, 0, r, .cons _ t, nd, h => by
    simp at h
    subst h
    exact .cons upd_same (LR.off t (List.nodup_cons.mp nd).1)
  | b :: as, _, i + 1, r, .cons q t, nd, h => by
    have h : as[i]? = some a := by simpa using h
    have hn : b ≠ a := fun e => (List.nodup_cons.mp nd).1 (e ▸ List.mem_of_getElem? h)
    exact .cons ((upd_ne hn).trans q) (LR.upd t (List.nodup_cons.mp nd).2 h)
end
/-! ### even webs -/
theorem perm_erase {α : Type} : ∀ {xs : List α} {i : Nat} {x : α}, xs[i]? = some x → (x :: xs.eraseIdx i).Perm xs
  | [], _, _, h => by simp at h
  | y :: ys, 0, x, h => by simp at h; subst h; exact List.Perm.refl _
  | y :: ys, i + 1, x, h => by
    have ih := perm_erase (xs := ys) (i := i) (x := x) (by simpa using h)
    rw [List.eraseIdx_cons_succ]
    exact (List.Perm.swap y x _).trans (ih.cons y)
theorem nodup_rangeI (n : Nat) : (rangeI n).Nodup := by
  refine (rangeI_up n).imp fun h => ?_
  omega
theorem count_rangeI {n : Nat} {x : Int} (h0 : 0 ≤ x) (h1 : x < (n : Int)) : (rangeI n).count x = 1 := by
  have := (nodup_rangeI n).count (a := x)
  rw [this, if_pos (mem_rangeI.mpr ⟨h0, h1⟩)]
/-- one more way in a row -/
theorem waysIn_set {R : List (List Int)} {x : Nat} {r r' : List Int} {g : Int} (hx : R[x]? = some r) (hc : ∀ i, r'.count i = r.count i + if g = i then 1 else 0) (i : Int) : waysIn (R.set x r') i = waysIn R i + if g = i then 1 else 0 := by
  unfold waysIn
  rw [List.map_set]
  rw [sum_set (z := ((r.count i : Nat) : Int)) (by rw [List.getElem?_map, hx]; rfl), hc i]
  split <;> omega
theorem count_ins (xs : List Int) (j : Nat) (g i : Int) : (xs.take j ++ [g] ++ xs.drop j).count i = xs.count i + if g = i then 1 else 0 := by
  have h : xs.count i = (xs.take j).count i + (xs.drop j).count i := by rw [← List.count_append, List.take_append_drop]
  rw [List.count_append, List.count_append, h, List.count_singleton]
  by_cases e : g = i
  · simp [e]; omega
  · simp [e]
theorem waysIn_nil (n : Nat) (i : Int) : waysIn (List.replicate n []) i = 0 := by
  unfold waysIn
  rw [List.map_replicate]
  simp
/-- the t-th of a ring -/
def ringAt (n : Nat) (O : List Int) (t : Nat) : Int := O.getD (t % n) 0
def RingIn (n : Nat) (O : List Int) (R : List (List Int)) : Prop := ∀ t, ∃ r, R[(ringAt n O t).toNat]? = some r ∧ ringAt n O (t + 1) ∈ r
/-- rows as they stand when so many ways go in and out at each place -/
structure EvS (n : Nat) (O : List Int) (R : List (List Int)) : Prop where
  len : R.length = n
  rng : ∀ r ∈ R, ∀ x ∈ r, 0 ≤ x ∧ x < (n : Int)
  ring : RingIn n O R
theorem Rch.trans {R : List (List Int)} {a b c : Int} (h : Rch R a b) (h2 : Rch R b c) : Rch R a c := by
  induction h2 with
  | refl => exact h
  | step q1 q2 q3 q4 ih => exact .step ih q2 q3 q4
theorem ring_rch {n : Nat} {O : List Int} {R : List (List Int)} (h : RingIn n O R) (hr : ∀ t, 0 ≤ ringAt n O t) (s : Nat) : ∀ d, Rch R (ringAt n O s) (ringAt n O (s + d))
  | 0 => .refl
  | d + 1 => by
    obtain ⟨r, h1, h2⟩ := h (s + d)
    exact .step (ring_rch h hr s d) (hr _) h1 h2
theorem EvS.even {n c : Nat} {O : List Int} {R : List (List Int)} (h : EvS n O R) (hO : O.Perm (rangeI n)) (hn : 0 < n) (hc : 1 ≤ c) (hl : ∀ r ∈ R, r.length = c) (hw : ∀ i : Int, 0 ≤ i → i < (n : Int) → waysIn R i = (c : Int)) : EvenW R := by
  have hOl : O.length = n := by rw [hO.length_eq, rangeI_len]
  have hat : ∀ t, ringAt n O t ∈ O := fun t => by
    unfold ringAt
    have : t % n < O.length := by rw [hOl]; exact Nat.mod_lt _ hn
    rw [List.getD_eq_getElem?_getD, List.getElem?_eq_getElem this]
    exact List.getElem_mem this
  have hat0 : ∀ t, 0 ≤ ringAt n O t := fun t => (mem_rangeI.mp (hO.mem_iff.mp (hat t))).1
  refine ⟨fun r hr e => ?_, fun i r hr => ?_, fun i x i0 i1 x0 x1 => ?_⟩
  · have := hl r hr
    rw [e] at this
    simp at this
    omega
  · have hi := (List.getElem?_eq_some_iff.mp hr).1
    rw [h.len] at hi
    rw [hw (i : Int) (by omega) (by omega), hl r (List.mem_of_getElem? hr)]
  · rw [h.len] at i1 x1
    have find : ∀ y : Int, 0 ≤ y → y < (n : Int) → ∃ t, t < n ∧ ringAt n O t = y := fun y y0 y1 => by
      obtain ⟨t, ht, e⟩ := List.mem_iff_getElem.mp (hO.mem_iff.mpr (mem_rangeI.mpr ⟨y0, y1⟩))
      have ht' : t < n := by rw [hOl] at ht; exact ht
      refine ⟨t, ht', ?_⟩
      unfold ringAt
      rw [Nat.mod_eq_of_lt ht', List.getD_eq_getElem?_getD, List.getElem?_eq_getElem ht, e]
      rfl
    obtain ⟨s, hs, es⟩ := find i i0 i1
    obtain ⟨t, ht, et⟩ := find x x0 x1
    have := ring_rch h.ring hat0 s (n - s + t)
    have e2 : ringAt n O (s + (n - s + t)) = ringAt n O t := by
      unfold ringAt
      rw [show s + (n - s + t) = n + t by omega, Nat.add_mod_left]
    rw [e2, es, et] at this
    exact this
/-- while the ring is laid: the first ones have their way -/
structure Lay (n : Nat) (O : List Int) (j : Nat) (R : List (List Int)) : Prop where
  len : R.length = n
  done : ∀ t, t < j → R[(ringAt n O t).toNat]? = some [ringAt n O (t + 1)]
  rest : ∀ i : Nat, i < n → (i : Int) ∉ O.take j → R[i]? = some []
  wIn : ∀ i, waysIn R i = ((((List.range j).map fun t => ringAt n O (t + 1)).count i : Nat) : Int)
theorem Lay.zero (n : Nat) (O : List Int) : Lay n O 0 (List.replicate n []) :=
  ⟨by simp, fun t h => by omega, fun i hi _ => by rw [List.getElem?_replicate, if_pos hi], fun i => by rw [waysIn_nil]; simp⟩
theorem Lay.turn {n j : Nat} {O : List Int} {R : List (List Int)} (h : Lay n O j R) (hO : O.Perm (rangeI n)) (hj : j < n) : R[(ringAt n O j).toNat]? = some [] ∧ Lay n O (j + 1) (R.set (ringAt n O j).toNat [ringAt n O (j + 1)]) := by
  have hOl : O.length = n := by rw [hO.length_eq, rangeI_len]
  have hnd : O.Nodup := hO.nodup_iff.mpr (nodup_rangeI n)
  have hat : ∀ t, t < n → O[t]? = some (ringAt n O t) := fun t ht => by
    unfold ringAt
    rw [Nat.mod_eq_of_lt ht, List.getD_eq_getElem?_getD, List.getElem?_eq_getElem (by omega)]
    rfl
  have hr : ∀ t, t < n → 0 ≤ ringAt n O t ∧ ringAt n O t < (n : Int) := fun t ht => mem_rangeI.mp (hO.mem_iff.mp (List.mem_of_getElem? (hat t ht)))
  have hx := hr j hj
  have hxe : (((ringAt n O j).toNat : Nat) : Int) = ringAt n O j := by omega
  have hinj : ∀ t, t < n → t ≠ j → ringAt n O t ≠ ringAt n O j := fun t ht hne e => by
    refine hne ?_
    have h1 := hat t ht
    have h2 := hat j hj
    rw [e] at h1
    exact nd_ix hnd h1 h2
  have hnot : ringAt n O j ∉ O.take j := fun hm => by
    obtain ⟨t, e⟩ := List.mem_iff_getElem?.mp hm
    have ht := (List.getElem?_eq_some_iff.mp e).1
    have htj : t < j := by rw [List.length_take] at ht; omega
    rw [List.getElem?_take, if_pos htj] at e
    rw [hat t (by omega)] at e
    exact hinj t (by omega) (by omega) (Option.some.inj e)
  have h0 : R[(ringAt n O j).toNat]? = some [] := h.rest _ (by omega) (by rw [hxe]; exact hnot)
  refine ⟨h0, by rw [List.length_set]; exact h.len, fun t ht => ?_, fun i hi hm => ?_, fun i => ?_⟩
  · by_cases e : t = j
    · subst e
      rw [List.getElem?_set_self (by rw [h.len]; omega)]
    · have := hinj t (by omega) e
      have := hr t (by omega)
      rw [List.getElem?_set_ne (by omega)]
      exact h.done t (by omega)
  · rw [List.take_add_one, hat j hj] at hm
    have h1 : (i : Int) ∉ O.take j := fun q => hm (List.mem_append_left _ q)
    have h2 : (i : Int) ≠ ringAt n O j := fun q => hm (List.mem_append_right _ (by rw [q]; exact List.mem_singleton.mpr rfl))
    rw [List.getElem?_set_ne (by omega)]
    exact h.rest i hi h1
  · rw [waysIn_set h0 (g := ringAt n O (j + 1)) (fun i => by simp [List.count_singleton]) i, h.wIn i, snoc_map, List.count_append, List.count_singleton]
    by_cases e : ringAt n O (j + 1) = i
    · simp [e]
    · simp [e]
theorem rot_perm {n : Nat} {O : List Int} (hO : O.length = n) (hn : 0 < n) : ((List.range n).map fun t => ringAt n O (t + 1)).Perm O := by
  have e : ((List.range n).map fun t => ringAt n O (t + 1)) = O.drop 1 ++ O.take 1 := by
    refine List.ext_getElem? fun t => ?_
    by_cases ht : t < n
    · rw [List.getElem?_map, List.getElem?_range ht]
      by_cases h1 : t + 1 < n
      · rw [List.getElem?_append_left (by rw [List.length_drop]; omega), List.getElem?_drop]
        show some (ringAt n O (t + 1)) = _
        unfold ringAt
        rw [Nat.mod_eq_of_lt h1, List.getD_eq_getElem?_getD, show 1 + t = t + 1 by omega, List.getElem?_eq_getElem (by omega)]
        rfl
      · have e2 : t + 1 = n := by omega
        rw [List.getElem?_append_right (by rw [List.length_drop]; omega), List.length_drop, List.getElem?_take, if_pos (by omega)]
        show some (ringAt n O (t + 1)) = _
        unfold ringAt
        rw [e2, Nat.mod_self, List.getD_eq_getElem?_getD, show t - (O.length - 1) = 0 by omega, List.getElem?_eq_getElem (by omega)]
        rfl
    · rw [List.getElem?_eq_none (by simp; omega), List.getElem?_eq_none (by simp; omega)]
  rw [e]
  exact (List.perm_append_comm).trans (by rw [List.take_append_drop])
theorem Lay.done_ {n : Nat} {O : List Int} {R : List (List Int)} (h : Lay n O n R) (hO : O.Perm (rangeI n)) (hn : 0 < n) : EvS n O R ∧ (∀ r ∈ R, r.length = 1) ∧ ∀ i : Int, 0 ≤ i → i < (n : Int) → waysIn R i = 1 := by
  have hOl : O.length = n := by rw [hO.length_eq, rangeI_len]
  have hat : ∀ t, ringAt n O t ∈ O := fun t => by
    unfold ringAt
    have : t % n < O.length := by rw [hOl]; exact Nat.mod_lt _ hn
    rw [List.getD_eq_getElem?_getD, List.getElem?_eq_getElem this]
    exact List.getElem_mem this
  have hmod : ∀ t, ringAt n O (t % n) = ringAt n O t := fun t => by unfold ringAt; rw [Nat.mod_mod]
  have hmod1 : ∀ t, ringAt n O (t % n + 1) = ringAt n O (t + 1) := fun t => by unfold ringAt; rw [Nat.mod_add_mod]
  have all : ∀ r ∈ R, ∃ t, r = [ringAt n O (t + 1)] := fun r hr => by
    obtain ⟨i, hi, e⟩ := List.mem_iff_getElem.mp hr
    rw [h.len] at hi
    obtain ⟨t, ht, e2⟩ := List.mem_iff_getElem.mp (hO.mem_iff.mpr (mem_rangeI.mpr (⟨by omega, by omega⟩ : 0 ≤ (i : Int) ∧ (i : Int) < (n : Int))))
    have ht' : t < n := by rw [hOl] at ht; exact ht
    have e3 : ringAt n O t = (i : Int) := by
      unfold ringAt
      rw [Nat.mod_eq_of_lt ht', List.getD_eq_getElem?_getD, List.getElem?_eq_getElem ht, e2]
      rfl
    have := h.done t ht'
    rw [e3, show ((i : Int)).toNat = i by omega, List.getElem?_eq_getElem (by rw [h.len]; exact hi), e] at this
    exact ⟨t, Option.some.inj this⟩
  refine ⟨⟨h.len, fun r hr x hx => ?_, fun t => ?_⟩, fun r hr => ?_, fun i i0 i1 => ?_⟩
  · obtain ⟨t, rfl⟩ := all r hr
    rw [List.mem_singleton.mp hx]
    exact mem_rangeI.mp (hO.mem_iff.mp (hat _))
  · have := h.done (t % n) (Nat.mod_lt _ hn)
    rw [hmod, hmod1] at this
    exact ⟨_, this, List.mem_singleton.mpr rfl⟩
  · obtain ⟨t, rfl⟩ := all r hr
    rfl
  · rw [h.wIn i, (rot_perm hOl hn).count_eq, hO.count_eq, count_rangeI i0 i1]
    rfl
/-- while one more way is laid at each place: the first places have it -/
structure More (n c : Nat) (O : List Int) (x : Nat) (T : List Int) (R : List (List Int)) : Prop where
  ev : EvS n O R
  lens : ∀ (i : Nat) (r : List Int), R[i]? = some r → r.length = if i < x then c + 1 else c
  wIn : ∀ i : Int, 0 ≤ i → i < (n : Int) → waysIn R i = (c : Int) + ((T.count i : Nat) : Int)
theorem More.turn {n c x : Nat} {O T : List Int} {R : List (List Int)} (h : More n c O x T R) (hx : x < n) {g : Int} (hg : 0 ≤ g ∧ g < (n : Int)) {r r' : List Int} (hr : R[x]? = some r) (hr' : ∃ j, r' = r.take j ++ [g] ++ r.drop j) : More n c O (x + 1) (T ++ [g]) (R.set x r') := by
  obtain ⟨j, rfl⟩ := hr'
  have hxl : x < R.length := by rw [h.ev.len]; exact hx
  have hmem : ∀ y, y ∈ r.take j ++ [g] ++ r.drop j ↔ y ∈ r ∨ y = g := fun y => by
    constructor
    · intro hy
      rcases List.mem_append.mp hy with q | q
      · rcases List.mem_append.mp q with q | q
        · exact .inl (List.mem_of_mem_take q)
        · exact .inr (List.mem_singleton.mp q)
      · exact .inl (List.mem_of_mem_drop q)
    · rintro (q | q)
      · rw [← List.take_append_drop j r] at q
        rcases List.mem_append.mp q with q | q
        · exact List.mem_append_left _ (List.mem_append_left _ q)
        · exact List.mem_append_right _ q
      · exact List.mem_append_left _ (List.mem_append_right _ (List.mem_singleton.mpr q))
  refine ⟨⟨by rw [List.length_set]; exact h.ev.len, fun s hs y hy => ?_, fun t => ?_⟩, fun i s hs => ?_, fun i i0 i1 => ?_⟩
  · rcases List.mem_or_eq_of_mem_set hs with q | q
    · exact h.ev.rng s q y hy
    · subst q
      rcases (hmem y).mp hy with q | q
      · exact h.ev.rng r (List.mem_of_getElem? hr) y q
      · rw [q]; exact hg
  · obtain ⟨s, h1, h2⟩ := h.ev.ring t
    by_cases e : (ringAt n O t).toNat = x
    · rw [e] at h1 ⊢
      rw [hr] at h1; cases h1
      exact ⟨_, List.getElem?_set_self hxl, (hmem _).mpr (.inl h2)⟩
    · exact ⟨s, by rw [List.getElem?_set_ne (fun q => e q.symm)]; exact h1, h2⟩
  · by_cases e : i = x
    · subst e
      rw [List.getElem?_set_self hxl] at hs
      cases hs
      have := h.lens i r hr
      rw [if_neg (Nat.lt_irrefl _)] at this
      rw [if_pos (Nat.lt_succ_self _)]
      simp only [List.length_append, List.length_take, List.length_drop, List.length_singleton]
      omega
    · rw [List.getElem?_set_ne (fun q => e q.symm)] at hs
      rw [h.lens i s hs]
      by_cases q : i < x
      · rw [if_pos q, if_pos (by omega)]
      · rw [if_neg q, if_neg (by omega)]
  · rw [waysIn_set hr (g := g) (count_ins r j g) i, h.wIn i i0 i1, List.count_append, List.count_singleton]
    by_cases e : g = i
    · simp [e]; omega
    · simp [e]
end Rw

namespace Rw
open PySem PySem.Spec PyProof.Rows L2
local macro_rules | `(tactic| walk_at "go1") => `(tactic| first
  | (with_reducible refine w_seq ?_)
  | (with_reducible refine w_asg ?_)
  | (with_reducible refine w_name ?_)
  | (with_reducible refine w_drop ?_)
  | (with_reducible refine w_ret ?_)
  | (with_reducible refine w_next ?_)
  | (with_reducible refine w_op ?_)
  | (with_reducible refine w_un ?_)
  | (with_reducible refine w_c ?_)
  | (with_reducible refine w_var (by with_unfolding_all rfl) ?_)
  | (with_reducible refine w_rI0 ?_)
  | (with_reducible refine w_rU ?_)
  | ((with_reducible refine w_mod ?_ ?_); (show (0 : Int) < _); omega)
  | ((with_reducible refine w_div ?_ ?_); exact And.intro (by omega) (by omega))
  | ((with_reducible refine w_mul ?_ ?_); (first | exact Or.inl (And.intro (by omega) (by omega)) | exact Or.inr (And.intro (by omega) (by omega))))
  | (with_reducible refine w_ifS ?_)
  | (with_reducible refine w_if ?_)
  | (with_reducible refine w_test ?_)
  | (with_reducible refine w_B ?_)
  | (with_reducible refine w_bl ?_)
  | (with_reducible refine w_not ?_)
  | (with_reducible refine w_and ?_)
  | (with_reducible refine w_or ?_)
  | (with_reducible refine w_cons ?_)
  | (with_reducible refine w_nil ?_)
  | (with_reducible refine w_call ?_)
  | (with_reducible refine w_cb ?_)
  | (with_reducible refine w_bm0 ?_)
  | (with_reducible refine w_bm ?_)
  | (with_reducible refine w_tlst ?_)
  | (with_reducible refine w_ttup ?_)
  | (with_reducible refine w_sub ?_)
  | (with_reducible refine w_for ?_)
  | (with_reducible refine w_rng1 ?_)
  | ((with_reducible refine w_rngE ?_ ?_ ?_); omega; omega)
  | (with_reducible refine w_iL ?_)
  | (with_reducible refine w_iT ?_)
  | (with_reducible refine w_iE ?_)
  | (with_reducible refine w_iZ ?_)
  | (with_reducible refine w_lc ?_)
  | (with_reducible refine w_yes ?_)
  | (with_reducible refine w_gcons ?_)
  | (with_reducible refine w_gnil ?_)
  | (with_reducible refine w_max2 ?_)
  | (with_reducible refine w_sl ?_)
  | (with_reducible refine w_part ?_)
  | (with_reducible refine w_partI ?_)
  | (with_reducible refine w_nopart ?_)
  | (with_reducible refine w_isT ?_)
  | (with_reducible refine w_notT ?_)
  | (with_reducible refine w_isB ?_)
  | (with_reducible refine w_notB ?_)
  | (with_reducible refine w_isN ?_)
  | (with_reducible refine w_notN ?_)
  | (with_reducible refine w_fld ?_)
  | (with_reducible refine w_ftm ?_)
  | (with_reducible refine w_lrg ?_)
  | (with_reducible refine w_rg1 ?_)
  | (with_reducible refine w_rg1E ?_)
  | (with_reducible refine w_tru ?_)
  | (with_reducible refine w_truB ?_)
  | (with_reducible refine w_truI ?_)
  | (with_reducible refine w_notT' ?_)
  | (with_reducible refine w_andT ?_)
  | (with_reducible refine w_orT ?_)
  | (with_reducible refine w_andV ?_)
  | (with_reducible refine w_orV ?_)
  | (with_reducible refine w_andE ?_)
  | (with_reducible refine w_orE ?_)
  | (with_reducible refine w_notV ?_)
  | (with_reducible refine w_notE ?_)
  | (with_reducible refine w_chain ?_)
  | (with_reducible refine w_chainI ?_)
  | (with_reducible refine w_meth ?_)
  | (with_reducible refine w_make ?_)
  | (with_reducible refine w_sfld ?_))
local macro_rules | `(tactic| walk_at "go") => `(tactic| repeat walk_at "go1")

def spEven : Sp := fun vs H Q _ => ∃ (B : Hp) (M : List (Addr × HO)) (c k : Int), vs = [.int c, .int k] ∧ 0 ≤ k ∧ k ≤ 10000 ∧ Hs B M H ∧
  ∀ (rows : List (List Int)) (p : Addr) (B' H' : Hp), Valid rows → EvenW rows → Same B B' → Hs B' M H' → LL B' p rows → Q (.ref p) H'
-- _law_even: 0 _law_cell, 1 _law_k, 2 _law_number, 3 _law_many, 4 _law_order, 5 _law_left, 6 _law_j, 7 _law_place, 8 _law_rows_here, 9 _law_turn, 10 _law_goals, 11 _law_goal, 12 _law_at
abbrev s_law_even : Stmt := top 35
theorem sc_law_even : FnScope ["_law_cell", "_law_k", "_law_number", "_law_many", "_law_order", "_law_left", "_law_j", "_law_place", "_law_rows_here", "_law_turn", "_law_goals", "_law_goal", "_law_at"] ["_law_cell", "_law_k"] (defScope s_law_even) := ⟨rfl, rfl, rfl, by decide +kernel, rfl, by decide +kernel, by decide +kernel⟩
theorem map_erase {α β : Type} (f : α → β) : ∀ (xs : List α) (i : Nat), (xs.eraseIdx i).map f = (xs.map f).eraseIdx i
  | [], i => by simp
  | x :: xs, 0 => rfl
  | x :: xs, i + 1 => by
    rw [List.eraseIdx_cons_succ, List.map_cons, List.map_cons, List.eraseIdx_cons_succ, map_erase f xs i]
section
variable {P : Program} {w : World} {K : PySem.W.Frag} {mg : Str → Option Value} {base : Heap}
theorem ok_even (T : NamesL mg) (G : Glo K mg "_law_even" s_law_even) (C_law_mixed : Cal P w K mg base "_law_mixed" 1 ["_law_cell", "_law_k"] spMixed) : Cal P w K mg base "_law_even" 2 ["_law_cell", "_law_k"] spEven := by
  refine G.cal (k := 1) sc_law_even (fun _ _ _ _ _ _ us hl => match us, hl with | [_, _], _ => rfl) (fun vs H Q E h => ?_) (fun f cdv A outer s H vs Q E hr h => ?_)
  · obtain ⟨B, M, c, k, rfl, _⟩ := h; rfl
  obtain ⟨B, M, c, k, rfl, k0, k1, S, hQ⟩ := h
  refine ⟨_, (pss_cons (ps_set (i := 2) sc_law_even.nd rfl (Or.inl rfl) (pe_cal C_law_mixed hr rfl (pa_cons (pv 0) (pa_cons (pv 1) pa_nil)))) (pss_cons (ps_set (i := 3) sc_law_even.nd rfl (Or.inl rfl) (pe_op op_add pe_int (pe_op op_mod (pv 2) pe_int))) (pss_cons (ps_set (i := 4) sc_law_even.nd rfl (Or.inl rfl) (pe_lst pa_nil)) (pss_cons (ps_set (i := 5) sc_law_even.nd rfl (Or.inl rfl) (pe_listRg rfl rfl T.n_list (prg_1 rfl T.n_range (pv 3)))) (pss_cons (ps_for PassesOwn.never rfl (pi_range1 rfl T.n_range (pa_cons (pv 3) pa_nil)) (pg_name (i := 6) sc_law_even.nd rfl (Or.inl rfl)) (pss_one (ps_expr (pe_bmK K PySem.F.plainAttrs_list PySem.F.slot_list_append PySem.F.type_list_append mt_append (pv 4) (pa_cons (pe_bmK K PySem.F.plainAttrs_list PySem.F.slot_list_pop PySem.F.type_list_pop mt_popAt (pv 5) (pa_cons (pe_op op_mod (pe_cal C_law_mixed hr rfl (pa_cons (pv 0) (pa_cons (pe_op op_add (pe_op op_add (pv 1) pe_int) (pv 6)) pa_nil))) (pe_callB (k_len K) rfl T.n_len boot_len (pa_cons (pv 5) pa_nil))) pa_nil)) pa_nil))))) (pss_cons (ps_setLc (i := 8) (own := [("_law_place", 7)]) rfl sc_law_even.nd rfl rfl (sw_true rfl rfl rfl (by decide +kernel)) (pi_range1 rfl T.n_range (pa_cons (pv 3) pa_nil)) (blkOk_by (own := [("_law_place", 7)]) (N := ["_law_cell", "_law_k", "_law_number", "_law_many", "_law_order", "_law_left", "_law_j", "_law_place", "_law_rows_here", "_law_turn", "_law_goals", "_law_goal", "_law_at"]) (sc := defScope s_law_even) (by decide +kernel)) (fun _ _ _ _ _ => (pg_name (i := 7) sc_law_even.nd rfl (Or.inl rfl))) (fun _ _ _ _ _ => pts_nil) (fun _ _ _ _ _ => (pe_lst pa_nil))) (pss_cons (ps_for PassesOwn.never rfl (pi_enumK K rfl T.n_enumerate (pa_cons (pv 4) pa_nil)) (pg_tupK (n := 2) K rfl (pgs_cons (pg_name (i := 6) sc_law_even.nd rfl (Or.inl rfl)) (pgs_cons (pg_name (i := 7) sc_law_even.nd rfl (Or.inl rfl)) pgs_nil))) (pss_one (ps_expr (pe_bmK K PySem.F.plainAttrs_list PySem.F.slot_list_append PySem.F.type_list_append mt_append (pe_ix (k_ixL K) (pv 8) (pv 7) (fun _ _ => rfl)) (pa_cons (pe_ix (k_ixL K) (pv 4) (pe_op op_mod (pe_op op_add (pv 6) pe_int) (pv 3)) (fun _ _ => rfl)) pa_nil))))) (pss_cons (ps_for PassesOwn.never rfl (pi_range1 rfl T.n_range (pa_cons (pe_op op_mod (pe_op op_fdiv (pv 2) pe_int) pe_int) pa_nil)) (pg_name (i := 9) sc_law_even.nd rfl (Or.inl rfl)) (pss_cons (ps_set (i := 10) sc_law_even.nd rfl (Or.inl rfl) (pe_listRg rfl rfl T.n_list (prg_1 rfl T.n_range (pv 3)))) (pss_one (ps_for PassesOwn.never rfl (pi_range1 rfl T.n_range (pa_cons (pv 3) pa_nil)) (pg_name (i := 7) sc_law_even.nd rfl (Or.inl rfl)) (pss_cons (ps_set (i := 11) sc_law_even.nd rfl (Or.inl rfl) (pe_bmK K PySem.F.plainAttrs_list PySem.F.slot_list_pop PySem.F.type_list_pop mt_popAt (pv 10) (pa_cons (pe_op op_mod (pe_cal C_law_mixed hr rfl (pa_cons (pv 0) (pa_cons (pe_op op_add (pe_op op_add (pe_op op_add (pv 1) pe_int) (pe_op op_mul pe_int (pv 9))) (pv 7)) pa_nil))) (pe_callB (k_len K) rfl T.n_len boot_len (pa_cons (pv 10) pa_nil))) pa_nil))) (pss_cons (ps_set (i := 12) sc_law_even.nd rfl (Or.inl rfl) (pe_op op_mod (pe_cal C_law_mixed hr rfl (pa_cons (pv 0) (pa_cons (pe_op op_add (pe_op op_add (pe_op op_add (pv 1) pe_int) (pe_op op_mul pe_int (pv 9))) (pv 7)) pa_nil))) (pe_op op_add (pe_callB (k_len K) rfl T.n_len boot_len (pa_cons (pe_ix (k_ixL K) (pv 8) (pv 7) (fun _ _ => rfl)) pa_nil)) pe_int))) (pss_one (ps_expr (pe_bmK K PySem.F.plainAttrs_list PySem.F.slot_list_insert PySem.F.type_list_insert mt_insX (pe_ix (k_ixL K) (pv 8) (pv 7) (fun _ _ => rfl)) (pa_cons (pv 12) (pa_cons (pv 11) pa_nil))))))))))) (pss_one (ps_ret (pv 8))))))))))), ?_⟩
  walk_at "go"
  refine ⟨_, _, rfl, k0, by omega, ?_⟩
  walk_at "go"
  have n0 := mixed_nn c k
  generalize mixed c k = num at *
  have hm : 1 ≤ 1 + num % 8 ∧ 1 + num % 8 ≤ 8 := by omega
  generalize 1 + num % 8 = many at *
  obtain ⟨n, en⟩ : ∃ n : Nat, many = (n : Int) := ⟨many.toNat, by omega⟩
  subst en
  have hn0 : 0 < n := by omega
  have hn8 : n ≤ 8 := by omega
  refine w_lst S (len_ok (by simp)) fun o H1 S1 => ?_
  walk_at "go"
  refine w_lrgE S1 (by omega) (by omega) fun lf H2 S2 => ?_
  rw [show ((n : Nat) : Int).toNat = n by omega] at S2
  walk_at "go"
  -- the order
  refine for_rng (fun j σ H => ∃ (O Lf : List Int) (v6 v7 v8 v9 v10 v11 v12 : Option V), σ = [some (.int c), some (.int k), some (.int num), some (.int (n : Int)), some (.ref o), some (.ref lf), v6, v7, v8, v9, v10, v11, v12] ∧ Hs B ((lf, .lst (Lf.map V.int)) :: (o, .lst (O.map V.int)) :: M) H ∧ (O ++ Lf).Perm (rangeI n) ∧ O.length = j)
    ⟨[], rangeI n, none, none, none, none, none, none, none, rfl, S2, List.Perm.refl _, rfl⟩ ?_ ?_
  · rintro j σ H3 hj ⟨O, Lf, v6, v7, v8, v9, v10, v11, v12, rfl, S3, hP, hOl⟩
    have hLl : j + Lf.length = n := by
      have := hP.length_eq
      rw [List.length_append, rangeI_len] at this
      omega
    walk_at "go"
    refine ⟨tyL (sqL_of (S3.get 1)), ?_⟩
    walk_at "go"
    refine ⟨tyL (sqL_of (S3.get 0)), ?_⟩
    walk_at "go"
    refine ⟨_, _, rfl, by omega, by omega, ?_⟩
    have c0 := mixed_nn c (k + 1 + (j : Int))
    generalize mixed c (k + 1 + (j : Int)) = mm at *
    walk_at "go"
    refine w_len (sqL_of (S3.get 0)) ?_
    rw [List.length_map]
    walk_at "go"
    have hi0 := Int.emod_nonneg mm (show ((Lf.length : Nat) : Int) ≠ 0 by omega)
    have hi1 := Int.emod_lt_of_pos mm (show 0 < ((Lf.length : Nat) : Int) by omega)
    generalize mm % ((Lf.length : Nat) : Int) = ix at *
    obtain ⟨x, hx⟩ : ∃ x, Lf[ix.toNat]? = some x := ⟨_, List.getElem?_eq_getElem (by omega)⟩
    refine w_popAt S3 0 rfl (n := ix.toNat) (y := .int x) (by omega) (by omega) (seqIndex_of hi0 (by simpa using hi1)) (by rw [List.getElem?_map, hx]; rfl) fun H4 S4 => ?_
    walk_at "go"
    refine w_append S4 1 rfl (len_lt (by simp; omega)) fun H5 S5 => ?_
    refine ⟨O ++ [x], Lf.eraseIdx ix.toNat, some (.int (j : Int)), v7, v8, v9, v10, v11, v12, rfl, ?_, ?_, by simp [hOl]⟩
    · rw [List.map_append, map_erase]
      exact S5
    · refine List.Perm.trans ?_ hP
      rw [List.append_assoc]
      exact (perm_erase hx).append_left O
  · rintro σ H3 ⟨O, Lf, v6, v7, v8, v9, v10, v11, v12, rfl, S3, hP, hOl⟩
    rw [show ((n : Nat) : Int).toNat = n by omega] at hOl
    have hLf : Lf = [] := by
      have := hP.length_eq
      rw [List.length_append, rangeI_len] at this
      exact List.length_eq_zero_iff.mp (by omega)
    subst hLf
    rw [List.append_nil] at hP
    obtain ⟨B1, e1, ho, S4⟩ := (S3.drop 0).shut 0
    clear S3 S1 S2
    walk_at "go"
    refine lc_R S4 (fun i B' acc => ∃ as : List Addr, acc = as.map V.ref ∧ LR B' as (List.replicate i []) ∧ as.Nodup ∧ ∀ a ∈ as, B1 a = none) ⟨[], rfl, .nil, by simp, by simp⟩ ?_ ?_
    · rintro i D B' acc H' hi hli e S' ⟨as, rfl, hR, hnd, hf⟩
      walk_at "go"
      refine ⟨rfl, ?_⟩
      walk_at "go"
      refine iteT ?_
      walk_at "go"
      refine w_lst S' (len_ok (by simp)) fun q H5 S5 => ?_
      have hqn := S5.out 0
      obtain ⟨B2, e2, hq, S6⟩ := S5.shut 0
      refine lcp S6 (e.trans e2) hli (by omega) ⟨as ++ [q], by simp, ?_, ?_, ?_⟩
      · rw [List.replicate_succ']
        exact (hR.mono e2).snoc hq
      · refine List.nodup_append.mpr ⟨hnd, by simp, fun a ha b hb eab => ?_⟩
        rw [List.mem_singleton.mp hb] at eab
        obtain ⟨t, ht⟩ := List.mem_iff_getElem?.mp ha
        have hti := (List.getElem?_eq_some_iff.mp ht).1
        have hl := hR.length
        rw [List.length_replicate] at hl
        obtain ⟨a', ha', hla⟩ := hR.get (i := t) (r := []) (by rw [List.getElem?_replicate, if_pos (by omega)])
        rw [ht] at ha'; cases ha'
        have hla : B' a = some (.lst (([] : List Int).map V.int)) := hla
        rw [eab, hqn] at hla
        cases hla
      · intro a ha
        rcases List.mem_append.mp ha with q' | q'
        · exact hf a q'
        · rw [List.mem_singleton.mp q']
          exact e.free hqn
    · rintro p B2 acc H5 e2 S5 hli ⟨as, rfl, hR, hnd, hf⟩
      rw [show ((n : Nat) : Int).toNat = n by omega] at hR
      have hal : as.length = n := by have := hR.length; simpa using this
      walk_at "go"
      refine w_iEE (sqL_of (S5.ex _ _ (e2 _ _ ho))) ?_
      -- the ring
      refine for_enu (xs := O.map V.int) (fun j σ H => ∃ (B' : Hp) (R : List (List Int)) (v6 v7 v9 v10 v11 v12 : Option V), σ = [some (.int c), some (.int k), some (.int num), some (.int (n : Int)), some (.ref o), some (.ref lf), v6, v7, some (.ref p), v9, v10, v11, v12] ∧ Same B1 B' ∧ Hs B' ((p, .lst (as.map V.ref)) :: M) H ∧ LR B' as R ∧ Lay n O j R)
        ⟨B2, List.replicate n [], v6, v7, v9, v10, v11, v12, rfl, e2, S5, hR, Lay.zero n O⟩ (fun i σ H _ ⟨B', _, _, _, _, _, _, _, _, e, S6, _⟩ => sqL_of (S6.ex _ _ (e _ _ ho))) ?_ ?_
      · rintro j x σ H6 T0 hx ⟨B', R, v6, v7, v9, v10, v11, v12, rfl, e, S6, hR, hL⟩ hT0
        have S7 := S6.new hT0 (.tup [.int (j : Int), x])
        generalize upd H6 T0 (.tup [.int (j : Int), x]) = H7 at S7
        have hjn : j < n := by
          have := (List.getElem?_eq_some_iff.mp hx).1
          rw [List.length_map] at this
          omega
        have hat : O[j]? = some (ringAt n O j) := by
          unfold ringAt
          rw [Nat.mod_eq_of_lt hjn, List.getD_eq_getElem?_getD, List.getElem?_eq_getElem (by omega)]
          rfl
        have hxe : x = V.int (ringAt n O j) := by
          rw [List.getElem?_map, hat] at hx
          exact (Option.some.inj hx).symm
        subst hxe
        have hr := mem_rangeI.mp (hP.mem_iff.mp (List.mem_of_getElem? hat))
        obtain ⟨h0, hL2⟩ := hL.turn hP hjn
        obtain ⟨a, ha, hla⟩ := hR.get h0
        have hz : (((j : Int) + 1) % (n : Int)).toNat = (j + 1) % n := by
          rw [show ((j : Int) + 1) = ((j + 1 : Nat) : Int) by omega, ← Int.natCast_emod]
          rfl
        have hz0 := Int.emod_nonneg ((j : Int) + 1) (show ((n : Nat) : Int) ≠ 0 by omega)
        have hz1 : (j + 1) % n < n := Nat.mod_lt _ hn0
        refine w_gtup (sqT_of (S7.get 0)) rfl ?_
        walk_at "go"
        replace S7 := S7.drop 0
        refine w_ixL (v := .ref a) (sqL_of (S7.get 0)) (at_of (j := (ringAt n O j).toNat) (by omega) (by rw [List.getElem?_map, ha]; rfl)) ?_
        refine ⟨tyL (sqL_of (S7.ex _ _ hla)), ?_⟩
        walk_at "go"
        refine w_ixL (v := .int (ringAt n O (j + 1))) (sqL_of (S7.ex _ _ (e _ _ ho))) (at_of (j := (j + 1) % n) (by omega) ?_) ?_
        · rw [List.getElem?_map, List.getElem?_eq_getElem (by omega)]
          unfold ringAt
          rw [List.getD_eq_getElem?_getD, List.getElem?_eq_getElem (by omega)]
          rfl
        walk_at "go"
        refine w_appendB S7 hla (len_lt (by simp)) fun H8 S8 => ?_
        exact ⟨_, _, _, _, v9, v10, v11, v12, rfl, Same.updO e (hf a (List.mem_of_getElem? ha)), S8, hR.upd hnd ha (r := [ringAt n O (j + 1)]), hL2⟩
      · rintro σ H6 ⟨B3, R, v6, v7, v9, v10, v11, v12, rfl, e3, S6, hR, hL⟩
        rw [List.length_map, hOl] at hL
        obtain ⟨hev, hl1, hw1⟩ := hL.done_ hP hn0
        walk_at "go"
        -- more ways
        refine for_rng (fun t σ H => ∃ (B' : Hp) (R : List (List Int)) (v6 v7 v9 v10 v11 v12 : Option V), σ = [some (.int c), some (.int k), some (.int num), some (.int (n : Int)), some (.ref o), some (.ref lf), v6, v7, some (.ref p), v9, v10, v11, v12] ∧ Same B1 B' ∧ Hs B' ((p, .lst (as.map V.ref)) :: M) H ∧ LR B' as R ∧ EvS n O R ∧ (∀ r ∈ R, r.length = t + 1) ∧ ∀ i : Int, 0 ≤ i → i < (n : Int) → waysIn R i = ((t + 1 : Nat) : Int))
          ⟨B3, R, v6, v7, v9, v10, v11, v12, rfl, e3, S6, hR, hev, hl1, hw1⟩ ?_ ?_
        · rintro t σ H7 ht ⟨B4, R, v6, v7, v9, v10, v11, v12, rfl, e4, S7, hR, hev, hl, hw⟩
          walk_at "go"
          refine w_lrgE S7 (by omega) (by omega) fun gl H8 S8 => ?_
          rw [show ((n : Nat) : Int).toNat = n by omega] at S8
          walk_at "go"
          refine for_rng (fun x σ H => ∃ (B' : Hp) (R : List (List Int)) (T0 Gl : List Int) (v6 v7 v11 v12 : Option V), σ = [some (.int c), some (.int k), some (.int num), some (.int (n : Int)), some (.ref o), some (.ref lf), v6, v7, some (.ref p), some (.int (t : Int)), some (.ref gl), v11, v12] ∧ Same B1 B' ∧ Hs B' ((gl, .lst (Gl.map V.int)) :: (p, .lst (as.map V.ref)) :: M) H ∧ LR B' as R ∧ (T0 ++ Gl).Perm (rangeI n) ∧ T0.length = x ∧ More n (t + 1) O x T0 R)
            ⟨B4, R, [], rangeI n, v6, v7, v11, v12, rfl, e4, S8, hR, List.Perm.refl _, rfl, hev, fun i r hr => by rw [hl r (List.mem_of_getElem? hr), if_neg (Nat.not_lt_zero _)], fun i i0 i1 => by rw [hw i i0 i1]; simp⟩ ?_ ?_
          · rintro x σ H9 hx ⟨B5, R, T0, Gl, v6, v7, v11, v12, rfl, e5, S9, hR, hG, hT0, hM⟩
            have hxn : x < n := by omega
            have hGl : x + Gl.length = n := by
              have := hG.length_eq
              rw [List.length_append, rangeI_len] at this
              omega
            obtain ⟨r, hr1⟩ : ∃ r, R[x]? = some r := ⟨_, List.getElem?_eq_getElem (by rw [hM.ev.len]; exact hxn)⟩
            have hrl := hM.lens x r hr1
            rw [if_neg (Nat.lt_irrefl _)] at hrl
            obtain ⟨a, ha, hla⟩ := hR.get hr1
            walk_at "go"
            refine ⟨tyL (sqL_of (S9.get 0)), ?_⟩
            walk_at "go"
            refine ⟨_, _, rfl, by omega, by omega, ?_⟩
            have c0 := mixed_nn c (k + 20 + 10 * (t : Int) + (x : Int))
            generalize mixed c (k + 20 + 10 * (t : Int) + (x : Int)) = mm at *
            walk_at "go"
            refine w_len (sqL_of (S9.get 0)) ?_
            rw [List.length_map]
            walk_at "go"
            have hi0 := Int.emod_nonneg mm (show ((Gl.length : Nat) : Int) ≠ 0 by omega)
            have hi1 := Int.emod_lt_of_pos mm (show 0 < ((Gl.length : Nat) : Int) by omega)
            generalize mm % ((Gl.length : Nat) : Int) = ix at *
            obtain ⟨g, hg⟩ : ∃ g, Gl[ix.toNat]? = some g := ⟨_, List.getElem?_eq_getElem (by omega)⟩
            have hgr := mem_rangeI.mp (hG.mem_iff.mp (List.mem_append_right T0 (List.mem_of_getElem? hg)))
            refine w_popAt S9 0 rfl (n := ix.toNat) (y := .int g) (by omega) (by omega) (seqIndex_of hi0 (by simpa using hi1)) (by rw [List.getElem?_map, hg]; rfl) fun H10 S10 => ?_
            walk_at "go"
            refine ⟨_, _, rfl, by omega, by omega, ?_⟩
            have c1 := mixed_nn c (k + 50 + 10 * (t : Int) + (x : Int))
            generalize mixed c (k + 50 + 10 * (t : Int) + (x : Int)) = m2 at *
            walk_at "go"
            refine w_ixL (v := .ref a) (sqL_of (S10.get 1)) (atI_nat (by rw [List.getElem?_map, ha]; rfl)) ?_
            walk_at "go"
            refine w_len (sqL_of (S10.ex _ _ hla)) ?_
            rw [List.length_map]
            walk_at "go"
            have ha0 := Int.emod_nonneg m2 (show ((r.length : Nat) : Int) + 1 ≠ 0 by omega)
            have ha1 := Int.emod_lt_of_pos m2 (show 0 < ((r.length : Nat) : Int) + 1 by omega)
            generalize m2 % (((r.length : Nat) : Int) + 1) = pl at *
            refine w_ixL (v := .ref a) (sqL_of (S10.get 1)) (atI_nat (by rw [List.getElem?_map, ha]; rfl)) ?_
            refine ⟨tyL (sqL_of (S10.ex _ _ hla)), ?_⟩
            walk_at "go"
            refine w_insertB S10 hla (len_lt (by simp; omega)) ha0 (by omega) fun H11 S11 => ?_
            have er : (r.map V.int).take pl.toNat ++ [V.int g] ++ (r.map V.int).drop pl.toNat = (r.take pl.toNat ++ [g] ++ r.drop pl.toNat).map V.int := by simp
            rw [er] at S11
            refine ⟨_, _, T0 ++ [g], Gl.eraseIdx ix.toNat, v6, some (.int (x : Int)), _, _, rfl, Same.updO e5 (hf a (List.mem_of_getElem? ha)), ?_, hR.upd hnd ha, ?_, by simp [hT0], hM.turn hxn hgr hr1 ⟨pl.toNat, rfl⟩⟩
            · rw [map_erase]
              exact S11
            · refine List.Perm.trans ?_ hG
              rw [List.append_assoc]
              exact (perm_erase hg).append_left T0
          · rintro σ H9 ⟨B5, R, T0, Gl, v6, v7, v11, v12, rfl, e5, S9, hR, hG, hT0, hM⟩
            rw [show ((n : Nat) : Int).toNat = n by omega] at hT0 hM
            have hGl : Gl = [] := by
              have := hG.length_eq
              rw [List.length_append, rangeI_len] at this
              exact List.length_eq_zero_iff.mp (by omega)
            subst hGl
            rw [List.append_nil] at hG
            refine ⟨B5, R, v6, v7, _, _, v11, v12, rfl, e5, S9.drop 0, hR, hM.ev, fun r hr => ?_, fun i i0 i1 => ?_⟩
            · obtain ⟨i, hi, er⟩ := List.mem_iff_getElem.mp hr
              have := hM.lens i r (by rw [List.getElem?_eq_getElem hi, er])
              rw [hM.ev.len] at hi
              rw [if_pos hi] at this
              exact this
            · rw [hM.wIn i i0 i1, hG.count_eq, count_rangeI i0 i1]
              omega
        · rintro σ H7 ⟨B4, R, v6, v7, v9, v10, v11, v12, rfl, e4, S7, hR, hev, hl, hw⟩
          have hc : 1 ≤ (num / 8 % 3).toNat + 1 ∧ (num / 8 % 3).toNat + 1 ≤ 3 := by omega
          generalize (num / 8 % 3).toNat + 1 = cc at *
          walk_at "go"
          obtain ⟨B5, e5, hp, S8⟩ := S7.shut 0
          refine hQ R p B5 _ ⟨by rw [hev.len]; omega, by rw [hev.len]; omega, fun r hr => ⟨by rw [hl r hr]; omega, fun x hx => by rw [hev.len]; exact hev.rng r hr x hx⟩⟩ (hev.even hP hn0 hc.1 hl hw) ((e1.trans e4).trans e5) S8 ⟨as, hp, hR.mono e5⟩
end
end Rw

set_option maxHeartbeats 4000000
namespace Rw
open PySem PySem.Spec PyProof.Rows L2
local macro_rules | `(tactic| walk_at "go1") => `(tactic| first
  | (with_reducible refine w_seq ?_)
  | (with_reducible refine w_asg ?_)
  | (with_reducible refine w_name ?_)
  | (with_reducible refine w_drop ?_)
  | (with_reducible refine w_ret ?_)
  | (with_reducible refine w_next ?_)
  | (with_reducible refine w_op ?_)
  | (with_reducible refine w_un ?_)
  | (with_reducible refine w_c ?_)
  | (with_reducible refine w_var (by with_unfolding_all rfl) ?_)
  | (with_reducible refine w_rI0 ?_)
  | (with_reducible refine w_rU ?_)
  | ((with_reducible refine w_mod ?_ ?_); (show (0 : Int) < _); omega)
  | ((with_reducible refine w_div ?_ ?_); exact And.intro (by omega) (by omega))
  | ((with_reducible refine w_mul ?_ ?_); (first | exact Or.inl (And.intro (by omega) (by omega)) | exact Or.inr (And.intro (by omega) (by omega))))
  | (with_reducible refine w_ifS ?_)
  | (with_reducible refine w_if ?_)
  | (with_reducible refine w_test ?_)
  | (with_reducible refine w_B ?_)
  | (with_reducible refine w_bl ?_)
  | (with_reducible refine w_not ?_)
  | (with_reducible refine w_and ?_)
  | (with_reducible refine w_or ?_)
  | (with_reducible refine w_cons ?_)
  | (with_reducible refine w_nil ?_)
  | (with_reducible refine w_call ?_)
  | (with_reducible refine w_cb ?_)
  | (with_reducible refine w_bm0 ?_)
  | (with_reducible refine w_bm ?_)
  | (with_reducible refine w_tlst ?_)
  | (with_reducible refine w_ttup ?_)
  | (with_reducible refine w_sub ?_)
  | (with_reducible refine w_for ?_)
  | (with_reducible refine w_rng1 ?_)
  | ((with_reducible refine w_rngE ?_ ?_ ?_); omega; omega)
  | (with_reducible refine w_iL ?_)
  | (with_reducible refine w_iT ?_)
  | (with_reducible refine w_iE ?_)
  | (with_reducible refine w_iZ ?_)
  | (with_reducible refine w_lc ?_)
  | (with_reducible refine w_yes ?_)
  | (with_reducible refine w_gcons ?_)
  | (with_reducible refine w_gnil ?_)
  | (with_reducible refine w_max2 ?_)
  | (with_reducible refine w_sl ?_)
  | (with_reducible refine w_part ?_)
  | (with_reducible refine w_partI ?_)
  | (with_reducible refine w_nopart ?_)
  | (with_reducible refine w_isT ?_)
  | (with_reducible refine w_notT ?_)
  | (with_reducible refine w_isB ?_)
  | (with_reducible refine w_notB ?_)
  | (with_reducible refine w_isN ?_)
  | (with_reducible refine w_notN ?_)
  | (with_reducible refine w_fld ?_)
  | (with_reducible refine w_ftm ?_)
  | (with_reducible refine w_lrg ?_)
  | (with_reducible refine w_rg1 ?_)
  | (with_reducible refine w_rg1E ?_)
  | (with_reducible refine w_tru ?_)
  | (with_reducible refine w_truB ?_)
  | (with_reducible refine w_truI ?_)
  | (with_reducible refine w_notT' ?_)
  | (with_reducible refine w_andT ?_)
  | (with_reducible refine w_orT ?_)
  | (with_reducible refine w_andV ?_)
  | (with_reducible refine w_orV ?_)
  | (with_reducible refine w_andE ?_)
  | (with_reducible refine w_orE ?_)
  | (with_reducible refine w_notV ?_)
  | (with_reducible refine w_notE ?_)
  | (with_reducible refine w_chain ?_)
  | (with_reducible refine w_chainI ?_)
  | (with_reducible refine w_meth ?_)
  | (with_reducible refine w_make ?_)
  | (with_reducible refine w_sfld ?_))
local macro_rules | `(tactic| walk_at "go") => `(tactic| repeat walk_at "go1")

local macro_rules | `(tactic| walk_at "go1") => `(tactic| first
  | (with_reducible refine w_augS ?_)
  | (with_reducible refine w_ipI ?_)
  | (with_reducible refine w_callX ?_)
  | (with_reducible refine w_methX ?_)
  | (with_reducible refine w_makeX ?_)
  | (with_reducible refine w_maked ?_)
  | (with_reducible refine w_methd ?_))
/-! ### the law's own walk -/
/-- some cells are let stand -/
theorem Hs.shuts {H : Hp} : ∀ {L M : List (Addr × HO)} {B : Hp}, Hs B (L ++ M) H → ∃ B', Same B B' ∧ (∀ c ∈ L, B' c.1 = some c.2) ∧ Hs B' M H
  | [], M, B, S => ⟨B, Same.refl B, fun _ h => (nomatch h), S⟩
  | (p, o) :: L, M, B, S => by
    obtain ⟨B1, e1, h1, S1⟩ := Hs.shut (p := p) (o := o) S 0 rfl
    obtain ⟨B2, e2, h2, S2⟩ := Hs.shuts (L := L) (M := M) (B := B1) S1
    refine ⟨B2, e1.trans e2, fun c hc => ?_, S2⟩
    rcases List.mem_cons.mp hc with rfl | hc
    · exact e2 _ _ h1
    · exact h2 c hc
def spWalked : Sp := fun vs H Q _ => ∃ (B : Hp) (M : List (Addr × HO)) (a h : Addr) (rows : List (List Int)) (h0 : Nat → Int) (s n : Nat), vs = [.ref a, .ref h, .int s, .int n] ∧ Hs B M H ∧ LL B a rows ∧ Valid rows ∧ Live rows ∧ Stay B M h (lv rows.length h0) ∧ Hands rows h0 ∧ s < rows.length ∧ n ≤ 1000 ∧
  ∀ (B' H' : Hp) (tq tl th : Addr) (as : List Addr), Same B B' → B' tq = some (.tup [.ref tl, .ref th, .int (pos rows h0 s n : Nat)]) → B' tl = some (.lst (as.map V.ref)) → B' th = some (lv rows.length (hx rows h0 (odo rows h0 s n))) → WaysB B' as ((List.range n).map (way rows h0 s)) → Hs B' M H' → Q (.ref tq) H'
/-- the data of steps -/
def dWy (ws : List (Nat × Int)) : PyData := .list (ws.map fun q => dT [(q.1 : Int), q.2])
theorem dpAll_ways {K : PySem.W.Frag} {H : Hp} : ∀ {as : List Addr} {ws : List (Nat × Int)}, WaysB H as ws → DpAll K H (as.map V.ref) (ws.map fun q => dT [(q.1 : Int), q.2])
  | _, _, .nil => .nil
  | _, _, .cons r t => .cons (dp_tup r) (dpAll_ways t)
theorem dp_ways {K : PySem.W.Frag} {H : Hp} {p : Addr} {as : List Addr} {ws : List (Nat × Int)} (h : H p = some (.lst (as.map V.ref))) (hw : WaysB H as ws) : Dp K H (.ref p) (dWy ws) := .lst (sqL_of h) (dpAll_ways hw)
theorem shp_dWy (ws : List (Nat × Int)) : Shp 2 (dWy ws) := shp_list fun d hd => by
  obtain ⟨i, _, rfl⟩ := List.mem_map.mp hd
  exact shp_dT _
theorem eqvAll_ways : ∀ xs ys : List (Nat × Int), PyData.eqvAll (xs.map fun q => dT [(q.1 : Int), q.2]) (ys.map fun q => dT [(q.1 : Int), q.2]) = decide (xs = ys)
  | [], [] => by simp [PyData.eqvAll]
  | [], y :: ys => by simp [PyData.eqvAll]
  | x :: xs, [] => by simp [PyData.eqvAll]
  | (x1, x2) :: xs, (y1, y2) :: ys => by
    rw [List.map_cons, List.map_cons]
    simp only [PyData.eqvAll]
    rw [eqv_dT, eqvAll_ways xs ys, Bool.eq_iff_iff]
    simp
    omega
theorem eqv_dWy (xs ys : List (Nat × Int)) : PyData.eqv (dWy xs) (dWy ys) = decide (xs = ys) := by
  unfold dWy
  simp only [PyData.eqv]
  exact eqvAll_ways xs ys
theorem cut_mid {xs : List V} {a m : Nat} (h : a + m ≤ xs.length) : cutV xs (some (a : Int)) (some ((a + m : Nat) : Int)) = (xs.drop a).take m := by
  unfold cutV
  rw [HT.sIx_nat, HT.sIx_nat, Nat.min_eq_left h, Nat.min_eq_left (show a ≤ xs.length by omega), Nat.add_sub_cancel_left]
theorem Paired.takeP {α β : Type} {F : α → β → Prop} : ∀ {l₁ : List α} {l₂ : List β} (n : Nat), Paired F l₁ l₂ → Paired F (l₁.take n) (l₂.take n)
  | _, _, 0, _ => by rw [List.take_zero, List.take_zero]; exact .nil
  | _, _, _ + 1, .nil => .nil
  | _, _, n + 1, .cons r t => .cons r (Paired.takeP n t)
theorem range_mid {α : Type} (f : Nat → α) {a m N : Nat} (h : a + m ≤ N) : (((List.range N).map f).drop a).take m = (List.range m).map fun k => f (a + k) := by
  refine List.ext_getElem? fun i => ?_
  by_cases hi : i < m
  · rw [List.getElem?_take_of_lt hi, List.getElem?_drop, List.getElem?_map, List.getElem?_map, List.getElem?_range hi, List.getElem?_range (by omega)]; rfl
  · rw [List.getElem?_eq_none (by simp; omega), List.getElem?_eq_none (by simp; omega)]
theorem roundW_eq {rows : List (List Int)} {h0 : Nat → Int} {s a b m : Nat} : roundW rows h0 s a m = roundW rows h0 s b m ↔ ∀ k, k < m → way rows h0 s (a + k) = way rows h0 s (b + k) := by
  unfold roundW
  constructor
  · intro h k hk
    have := congrArg (fun l : List (Nat × Int) => l[k]?) h
    simpa [hk] using this
  · intro h
    refine List.map_congr_left fun k hk => h k (by simpa using hk)
def spDue : Sp := fun vs H Q _ => ∃ (B : Hp) (M : List (Addr × HO)) (a h : Addr) (rows : List (List Int)) (h0 : Nat → Int) (s m ah : Nat), vs = [.ref a, .ref h, .int s, .int m] ∧ Hs B M H ∧ LL B a rows ∧ Valid rows ∧ Live rows ∧ Stay B M h (lv rows.length h0) ∧ Hands rows h0 ∧ s < rows.length ∧ 0 < m ∧ m ≤ 24 ∧ Rho rows h0 s m ah ∧
  ∀ (B' H' : Hp) (tq tl : Addr) (as : List Addr), Same B B' → B' tq = some (.tup [.int ah, .ref tl]) → B' tl = some (.lst (as.map V.ref)) → WaysB B' as (roundW rows h0 s ah m) → Hs B' M H' → Q (.ref tq) H'
theorem WaysB.get {B : Hp} : ∀ {as : List Addr} {ws : List (Nat × Int)} {i : Nat} {b : Addr} {q : Nat × Int}, WaysB B as ws → as[i]? = some b → ws[i]? = some q → B b = some (.tup [.int (q.1 : Nat), .int q.2])
  | _, _, _, _, _, .nil, h, _ => by simp at h
  | _, _, 0, _, _, .cons r _, h, h2 => by simp at h h2; subst h h2; exact r
  | _, _, i + 1, _, _, .cons _ t, h, h2 => WaysB.get (i := i) t (by simpa using h) (by simpa using h2)
def spGoneOn (CW : Addr) : Sp := fun vs H Q _ => ∃ (B : Hp) (M : List (Addr × HO)) (wa h p : Addr) (rows : List (List Int)) (h0 : Nat → Int) (s n : Nat) (as : List Addr), vs = [.ref wa, .ref h, .int s, .ref p] ∧ Hs B M H ∧ WebAt CW B wa rows ∧ Valid rows ∧ Live rows ∧ Stay B M h (lv rows.length h0) ∧ Hands rows h0 ∧ s < rows.length ∧ n ≤ 1000 ∧ Stay B M p (.lst (as.map V.ref)) ∧ WaysB B as ((List.range n).map (way rows h0 s)) ∧
  ∀ (B' H' : Hp), Same B B' → Hs B' M H' → Q (.bl true) H'
-- _law_gone_on: 0 _law_web, 1 _law_hands_here, 2 _law_place, 3 _law_steps, 4 _law_yard, 5 _law_here, 6 _law_hand
abbrev s_law_gone_on : Stmt := top 38
theorem sc_law_gone_on : FnScope ["_law_web", "_law_hands_here", "_law_place", "_law_steps", "_law_yard", "_law_here", "_law_hand"] ["_law_web", "_law_hands_here", "_law_place", "_law_steps"] (defScope s_law_gone_on) := ⟨rfl, rfl, rfl, by decide +kernel, rfl, by decide +kernel, by decide +kernel⟩
-- _law_walked: 0 _law_rows_here, 1 _law_hands_here, 2 _law_place, 3 _law_many, 4 _law_standing, 5 _law_found, 6 _law_turn
abbrev s_law_walked : Stmt := top 36
theorem sc_law_walked : FnScope ["_law_rows_here", "_law_hands_here", "_law_place", "_law_many", "_law_standing", "_law_found", "_law_turn"] ["_law_rows_here", "_law_hands_here", "_law_place", "_law_many"] (defScope s_law_walked) := ⟨rfl, rfl, rfl, by decide +kernel, rfl, by decide +kernel, by decide +kernel⟩
-- _law_due: 0 _law_rows_here, 1 _law_hands_here, 2 _law_place, 3 _law_ways, 4 _law_steps, 5 _law_ahead, 6 _law_later
abbrev s_law_due : Stmt := top 37
theorem sc_law_due : FnScope ["_law_rows_here", "_law_hands_here", "_law_place", "_law_ways", "_law_steps", "_law_ahead", "_law_later"] ["_law_rows_here", "_law_hands_here", "_law_place", "_law_ways"] (defScope s_law_due) := ⟨rfl, rfl, rfl, by decide +kernel, rfl, by decide +kernel, by decide +kernel⟩
section
variable {P : Program} {w : World} {K : PySem.W.Frag} {mg : Str → Option Value} {base : Heap} {CY CW CN CH CP CC CS : Addr}
theorem ok_walked (T : NamesL mg) (G : Glo K mg "_law_walked" s_law_walked) (C_law_step : Cal P w K mg base "_law_step" 1 ["_law_rows_here", "_law_hands_here", "_law_standing", "_law_place"] spStepL) : Cal P w K mg base "_law_walked" 2 ["_law_rows_here", "_law_hands_here", "_law_place", "_law_many"] spWalked := by
  refine G.cal (k := 1) sc_law_walked (fun _ _ _ _ _ _ us hl => match us, hl with | [_, _, _, _], _ => rfl) (fun vs H Q E h => ?_) (fun f cdv A outer s H vs Q E hr h => ?_)
  · obtain ⟨B, M, a, h, rows, h0, s, n, rfl, _⟩ := h; rfl
  obtain ⟨B, M, a, h, rows, h0, s, n, rfl, S, hL, hv, hl, hst, hh, hs, hn, hQ⟩ := h
  have hle := hv.le
  obtain ⟨ls, hls, hlR⟩ := id hL
  have hlsl := hlR.length
  refine ⟨_, (pss_cons (ps_set (i := 1) sc_law_walked.nd rfl (Or.inl rfl) (pe_callTy (k_list K) rfl T.n_list (by decide +kernel) (pa_cons (pv 1) pa_nil))) (pss_cons (ps_set (i := 4) sc_law_walked.nd rfl (Or.inl rfl) (pe_op op_rep (pe_lst (pa_cons pe_int pa_nil)) (pe_callB (k_len K) rfl T.n_len boot_len (pa_cons (pv 0) pa_nil)))) (pss_cons (ps_asg pe_int (pg_sub (pv 4) (pv 2) set_list)) (pss_cons (ps_set (i := 5) sc_law_walked.nd rfl (Or.inl rfl) (pe_lst pa_nil)) (pss_cons (ps_for PassesOwn.never rfl (pi_range1 rfl T.n_range (pa_cons (pv 3) pa_nil)) (pg_name (i := 6) sc_law_walked.nd rfl (Or.inl rfl)) (pss_cons (ps_expr (pe_bmK K PySem.F.plainAttrs_list PySem.F.slot_list_append PySem.F.type_list_append mt_append (pv 5) (pa_cons (pe_tup (pa_cons (pv 2) (pa_cons (pe_ix (k_ixL K) (pv 1) (pv 2) (fun _ _ => rfl)) pa_nil))) pa_nil))) (pss_one (ps_set (i := 2) sc_law_walked.nd rfl (Or.inl rfl) (pe_cal C_law_step hr rfl (pa_cons (pv 0) (pa_cons (pv 1) (pa_cons (pv 4) (pa_cons (pv 2) pa_nil))))))))) (pss_one (ps_ret (pe_tup (pa_cons (pv 5) (pa_cons (pv 1) (pa_cons (pv 2) pa_nil))))))))))), ?_⟩
  walk_at "go"
  refine w_listL S (sqL_of (hst.at S)) fun hc H1 S1 => ?_
  walk_at "go"
  refine w_lst S1 (len_ok (by simp)) fun t0 H2 S2 => ?_
  walk_at "go"
  refine w_len (sqL_of (S2.ex _ _ hls)) ?_
  rw [List.length_map, hlsl]
  refine w_rep S2 (S2.get 0) (by omega) (by omega) (small' (m := 8) (by simp; omega)) fun st H3 S3 => ?_
  rw [Int.toNat_natCast, rep_int] at S3
  have S3 := S3.drop 1
  walk_at "go"
  refine w_setL S3 0 rfl (n := s) (ixN_nat (by simp; omega)) fun H4 S4 => ?_
  rw [vec_setV hs] at S4
  walk_at "go"
  refine w_lst S4 (len_ok (by simp)) fun fd H5 S5 => ?_
  walk_at "go"
  have S6 : Hs B ((fd, .lst []) :: (hc, lv rows.length (hx rows h0 (odo rows h0 s 0))) :: (st, lv rows.length (put1 (fun _ => 0) s 1)) :: M) H5 := by
    have e : lv rows.length (hx rows h0 (odo rows h0 s 0)) = lv rows.length h0 := by unfold lv; rw [show vec rows.length (hx rows h0 (odo rows h0 s 0)) = vec rows.length h0 from vec_congr fun v hv => hx_zero hh hv]
    rw [e]
    exact (S5.first 2).first 1
  clear S1 S2 S3 S4 S5
  refine for_rng (fun i σ H => ∃ (B1 : Hp) (g : Nat → Int) (as : List Addr) (v6 : Option V), σ = [some (.ref a), some (.ref hc), some (.int (pos rows h0 s i : Nat)), some (.int (n : Nat)), some (.ref st), some (.ref fd), v6] ∧ Same B B1 ∧ WaysB B1 as ((List.range i).map (way rows h0 s)) ∧
      Hs B1 ((fd, .lst (as.map V.ref)) :: (hc, lv rows.length (hx rows h0 (odo rows h0 s i))) :: (st, lv rows.length g) :: M) H)
    ⟨B, _, [], none, rfl, Same.refl B, .nil, S6⟩ ?_ ?_
  · clear S6
    rintro i σ H6 hi ⟨B1, g, as, v6, rfl, e1, hws, S1⟩
    rw [Int.toNat_natCast] at hi
    have hp := pos_lt (h0 := h0) hv hl hs i
    have hasl : as.length = i := by have := Paired.length hws; simpa using this
    walk_at "go"
    refine ⟨tyL (sqL_of (S1.get 0)), ?_⟩
    walk_at "go"
    refine w_ixL (sqL_of (S1.get 1)) (atI_nat (vec_getV hp)) ?_
    walk_at "go"
    refine w_tup S1 (len_ok (by simp)) fun tp H7 S2 => ?_
    walk_at "go"
    refine w_append S2 1 rfl (len_lt (by simp; omega)) fun H8 S3 => ?_
    obtain ⟨B2, e2, htp, S4⟩ := S3.shut 0
    clear S1 S2 S3
    walk_at "go"
    have S5 : Hs B2 ((hc, lv rows.length (hx rows h0 (odo rows h0 s i))) :: (st, lv rows.length g) :: (fd, .lst (as.map V.ref ++ [.ref tp])) :: M) H8 := Hs.swap (A := [_]) (C := [_, _]) (M := M) S4
    have hr := hx_range (rows := rows) (h0 := h0) (x := odo rows h0 s i) (hl _ hp)
    refine ⟨B2, _, a, hc, st, rows, _, _, pos rows h0 s i, rfl, S5, hL.mono (e1.trans e2), hv, hp, hl _ hp, hr.1, hr.2, fun H9 S6 => ?_⟩
    have eh : put1 (hx rows h0 (odo rows h0 s i)) (pos rows h0 s i) ((hx rows h0 (odo rows h0 s i) (pos rows h0 s i) + 1) % (degOf rows (pos rows h0 s i) : Nat)) = hx rows h0 (odo rows h0 s (i + 1)) := by
      rw [odo_succ, hx_up]; rfl
    have ep : (rowOf rows (pos rows h0 s i)).getD (hx rows h0 (odo rows h0 s i) (pos rows h0 s i)).toNat (-1) = ((pos rows h0 s (i + 1) : Nat) : Int) := (pos_succ hv hl hs i).symm
    rw [eh] at S6
    rw [ep]
    walk_at "go"
    refine ⟨B2, stepW rows (hx rows h0 (odo rows h0 s i)) g (pos rows h0 s i), as ++ [tp], _, rfl, e1.trans e2, ?_, ?_⟩
    · rw [List.range_succ, List.map_append]
      exact (hws.up e2).push htp
    · rw [List.map_append]
      exact Hs.swap (A := [_, _]) (C := [_]) (M := M) S6
  · rintro σ H6 ⟨B1, g, as, v6, rfl, e1, hws, S1⟩
    rw [Int.toNat_natCast] at hws S1
    walk_at "go"
    refine w_tup S1 (len_ok (by simp)) fun tq H7 S2 => ?_
    obtain ⟨B2, e2, all, S3⟩ := Hs.shuts (L := [_, _, _, _]) (M := M) S2
    walk_at "go"
    exact hQ B2 H7 tq fd hc as (e1.trans e2) (all (tq, _) List.mem_cons_self) (all (fd, _) (List.mem_cons_of_mem _ List.mem_cons_self)) (all (hc, _) (List.mem_cons_of_mem _ (List.mem_cons_of_mem _ List.mem_cons_self))) (hws.up e2) S3
theorem ok_due (T : NamesL mg) (G : Glo K mg "_law_due" s_law_due) (C_law_walked : Cal P w K mg base "_law_walked" 2 ["_law_rows_here", "_law_hands_here", "_law_place", "_law_many"] spWalked) : Cal P w K mg base "_law_due" 3 ["_law_rows_here", "_law_hands_here", "_law_place", "_law_ways"] spDue := by
  refine G.cal (k := 2) sc_law_due (fun _ _ _ _ _ _ us hl => match us, hl with | [_, _, _, _], _ => rfl) (fun vs H Q E h => ?_) (fun f cdv A outer s H vs Q E hr h => ?_)
  · obtain ⟨B, M, a, h, rows, h0, s, m, ah, rfl, _⟩ := h; rfl
  obtain ⟨B, M, a, h, rows, h0, s, m, ah, rfl, S, hL, hv, hl, hst, hh, hs, hm0, hm24, hr0, hQ⟩ := h
  have hle := hv.le
  obtain ⟨ls, hls, hlR⟩ := id hL
  have hlsl := hlR.length
  have hle2 := hr0.le
  have hmn : rows.length * m ≤ 8 * 24 := Nat.mul_le_mul hle hm24
  refine ⟨_, (pss_cons (ps_set (i := 4) sc_law_due.nd rfl (Or.inl rfl) (pe_ix (k_ixT K) (pe_cal C_law_walked hr rfl (pa_cons (pv 0) (pa_cons (pv 1) (pa_cons (pv 2) (pa_cons (pe_op op_add (pe_op op_mul (pv 3) (pe_callB (k_len K) rfl T.n_len boot_len (pa_cons (pv 0) pa_nil))) (pe_op op_mul pe_int (pv 3))) pa_nil))))) pe_int (fun _ _ => rfl))) (pss_cons (ps_set (i := 5) sc_law_due.nd rfl (Or.inl rfl) pe_int) (pss_cons (ps_set (i := 6) sc_law_due.nd rfl (Or.inl rfl) (pe_slice (k_slL K) (pv 4) (po_some (pv 3)) po_none)) (pss_cons (ps_while PassesOwn.never (pt_cmpR (k_neD K hr.units) (pe_slice (k_slL K) (pv 4) (po_some (pv 5)) (po_some (pe_op op_add (pv 5) (pv 3)))) (pe_slice (k_slL K) (pv 6) (po_some (pv 5)) (po_some (pe_op op_add (pv 5) (pv 3)))) (nomark _)) (pss_one (ps_set (i := 5) sc_law_due.nd rfl (Or.inl rfl) (pe_op op_add (pv 5) pe_int)))) (pss_one (ps_ret (pe_tup (pa_cons (pv 5) (pa_cons (pe_slice (k_slL K) (pv 4) (po_some (pv 5)) (po_some (pe_op op_add (pv 5) (pv 3)))) pa_nil))))))))), ?_⟩
  walk_at "go"
  refine w_len (sqL_of (S.ex _ _ hls)) ?_
  rw [List.length_map, hlsl]
  walk_at "go"
  obtain ⟨N, eN, hN⟩ : ∃ N : Nat, (m : Int) * ((rows.length : Nat) : Int) + 2 * (m : Int) = N ∧ N = rows.length * m + 2 * m := ⟨rows.length * m + 2 * m, by rw [Int.natCast_add, Int.natCast_mul, Int.natCast_mul, Int.mul_comm]; rfl, rfl⟩
  rw [eN]
  refine ⟨B, M, a, h, rows, h0, s, N, rfl, S, hL, hv, hl, hst, hh, hs, by omega, fun B1 H1 t1 tl th as e1 ht1 htl hth hws S1 => ?_⟩
  have hasl : as.length = N := by have := Paired.length hws; simpa using this
  clear S
  walk_at "go"
  refine w_ixT (sqT_of (S1.ex _ _ ht1)) (atI_nat (j := 0) rfl) ?_
  walk_at "go"
  refine w_slice S1 (sqL_of (S1.ex _ _ htl)) fun lt H2 S2 => ?_
  rw [cut_lo (by simp; omega), ← List.map_drop] at S2
  obtain ⟨B2, e2, hlt, S3⟩ := S2.shut 0
  have S3 : Hs B2 M H2 := S3
  have htl := e2 _ _ htl
  have hws := hws.up e2
  have hws2 := Paired.dropP m hws
  have eNm : N = m + (N - m) := by omega
  rw [eNm, range_drop] at hws2
  clear S1 S2
  have part1 : ∀ A : Nat, A ≤ ah → WaysB B2 ((as.drop A).take m) (roundW rows h0 s A m) := fun A hA => by
    have := Paired.takeP m (Paired.dropP A hws)
    rw [range_mid _ (by omega)] at this
    exact this
  have part2 : ∀ A : Nat, A ≤ ah → WaysB B2 (((as.drop m).drop A).take m) (roundW rows h0 s (A + m) m) := fun A hA => by
    have := Paired.takeP m (Paired.dropP A hws2)
    rw [range_mid _ (by omega)] at this
    have e : roundW rows h0 s (A + m) m = (List.range m).map fun k => way rows h0 s (m + (A + k)) := List.map_congr_left fun k _ => by rw [show A + m + k = m + (A + k) by omega]
    rw [e]
    exact this
  walk_at "go"
  refine w_while (α := Nat) (fun A σ H => σ = [some (.ref a), some (.ref h), some (.int (s : Nat)), some (.int (m : Nat)), some (.ref tl), some (.int (A : Nat)), some (.ref lt)] ∧ A ≤ ah ∧ Hs B2 M H) (fun A => ah + 1 - A) 0 ⟨rfl, Nat.zero_le _, S3⟩ ?_
  clear S3
  rintro A σ H3 ⟨rfl, hA, S4⟩
  have c1 : ((A : Nat) : Int) + ((m : Nat) : Int) = ((A + m : Nat) : Int) := by omega
  walk_at "go"
  refine w_slice S4 (sqL_of (S4.ex _ _ htl)) fun z1 H4 S5 => ?_
  rw [c1, cut_mid (by simp; omega), ← List.map_drop, ← List.map_take] at S5
  walk_at "go"
  refine w_slice S5 (sqL_of (S5.ex _ _ hlt)) fun z2 H5 S6 => ?_
  rw [c1, cut_mid (by simp; omega), ← List.map_drop, ← List.map_take] at S6
  refine w_neD (dp_ways (S6.get 1) ((part1 A hA).up S6.ex)) (dp_ways (S6.get 0) ((part2 A hA).up S6.ex)) (shp_dWy _).shaped (shp_dWy _).shaped ?_
  rw [eqv_dWy]
  have S7 := (S6.drop 0).drop 0
  clear S4 S5 S6
  walk_at "go"
  by_cases hend : A = ah
  · subst hend
    rw [decide_eq_true (roundW_eq.mpr fun k _ => (hr0.again.on hv hl hs k).way hv hl hs)]
    refine iteF ?_
    walk_at "go"
    refine w_slice S7 (sqL_of (S7.ex _ _ htl)) fun z3 H6 S8 => ?_
    rw [c1, cut_mid (by simp; omega), ← List.map_drop, ← List.map_take] at S8
    walk_at "go"
    refine w_tup S8 (len_ok (by simp)) fun tq H7 S9 => ?_
    obtain ⟨B3, e3, all, S10⟩ := Hs.shuts (L := [_, _]) (M := M) S9
    exact hQ B3 H7 tq z3 _ (e1.trans (e2.trans e3)) (all (tq, _) List.mem_cons_self) (all (z3, _) (List.mem_cons_of_mem _ List.mem_cons_self)) ((part1 A hA).up e3) S10
  · rw [decide_eq_false (fun z => hr0.first A (by omega) (Sst.of_ways hv hl hs hm0 (roundW_eq.mp z)))]
    refine iteT (whb ?_)
    walk_at "go"
    exact ⟨A + 1, by show ah + 1 - (A + 1) < ah + 1 - A; omega, by rw [Int.natCast_add]; rfl, by omega, S7⟩
theorem ok_gone_on (T : NamesL mg) (T_Yard : Cls K CY) (G : Glo K mg "_law_gone_on" s_law_gone_on) (C_Yard : CalC P w K mg base CY "Yard" 5 ["self", "web", "hands"] (noE (spYInit CY CW CH))) (D_Yard_put : CalMd P w K mg base CY "put" 6 ["self", "place", "many"] [.int 1] (spPut CY CW CP CC)) (C_Yard_step : CalM P w K mg base CY "step" 6 ["self", "place"] (noE (spStep CY CW CP CS)))
    (C_Yard_hands : CalM P w K mg base CY "hands" 6 ["self"] (spRead CY CW Yd.h)) : Cal P w K mg base "_law_gone_on" 7 ["_law_web", "_law_hands_here", "_law_place", "_law_steps"] (spGoneOn CW) := by
  refine G.cal (k := 6) sc_law_gone_on (fun _ _ _ _ _ _ us hl => match us, hl with | [_, _, _, _], _ => rfl) (fun vs H Q E h => ?_) (fun f cdv A outer s H vs Q E hr h => ?_)
  · obtain ⟨B, M, wa, h, p, rows, h0, s, n, as, rfl, _⟩ := h; rfl
  obtain ⟨B, M, wa, h, p, rows, h0, s, n, as, rfl, S, hW, hv, hl, hst, hH, hs, hn, hp0, hws, hQ⟩ := h
  have hle := hv.le
  have hasl : as.length = n := by have := Paired.length hws; simpa using this
  refine ⟨_, (pss_cons (ps_set (i := 4) sc_law_gone_on.nd rfl (Or.inl rfl) (pe_mk C_Yard hr rfl (pa_cons (pv 0) (pa_cons (pv 1) pa_nil)))) (pss_cons (ps_expr (pe_calMd (pv 4) T_Yard D_Yard_put hr (pa_cons (pv 2) pa_nil))) (pss_cons (ps_for PassesOwn.never rfl (pi_listK K (pv 3)) (pg_tupK (n := 2) K rfl (pgs_cons (pg_name (i := 5) sc_law_gone_on.nd rfl (Or.inl rfl)) (pgs_cons (pg_name (i := 6) sc_law_gone_on.nd rfl (Or.inl rfl)) pgs_nil))) (pss_cons (ps_if (PW.pt (pw_or (pt_cmpR op_ne (pv 5) (pv 2) (nomark _)) (pw_or1 (pt_cmpR op_ne (pe_ix (k_ixL K) (pe_calM0 (pv 4) T_Yard C_Yard_hands hr) (pv 2) (fun _ _ => rfl)) (pv 6) (nomark _))))) (pss_one (ps_ret pe_bl)) pss_nil) (pss_one (ps_set (i := 2) sc_law_gone_on.nd rfl (Or.inl rfl) (pe_calM (pv 4) T_Yard C_Yard_step hr (pa_cons (pv 2) pa_nil)))))) (pss_one (ps_ret pe_bl))))), ?_⟩
  walk_at "go"
  refine w_makeXE S fun x dx2 H3 S3 => ?_
  refine ⟨B, M, x, dx2, wa, rows, .ref h, true, h0, rfl, S3, hW, hv, .lst hst hH, fun _ z B2 H4 ez _ e2 I _ S4 => ⟨rfl, ?_⟩, fun w => (nomatch w)⟩
  subst ez
  have S5 : Hs B2 (ycc rows z ⟨h0, zero, []⟩ [] ++ M) H4 := Hs.ycs S4 (fun v hv => (hx_zero hH hv).symm) (fun v _ => wx_zero.symm) (fun v _ => rfl)
  obtain ⟨dy, hdy⟩ := I.me
  have hws := hws.up e2
  have hp0 := hp0.up e2
  clear S S3 S4
  walk_at "go"
  refine w_methdE (S5.ex _ _ hdy) (lk0 (by decide +kernel) (by decide +kernel) (by decide +kernel) (by decide +kernel) (by decide +kernel) (by decide +kernel)) ?_
  walk_at "go"
  refine ⟨B2, M, z, rows, ⟨h0, zero, []⟩, [], .int (s : Nat), .int 1, true, true, rfl, S5, I, hle, plD_int (by omega) (by omega), nmD_int (by decide) (by decide), fun _ _ s' m' H5 eu em _ S6 => ?_, fun w => (nomatch w), fun _ w => (nomatch w)⟩
  cases em
  obtain rfl : s = s' := by have := V.int.inj eu; omega
  rw [put_one] at S6
  clear S5
  walk_at "go"
  refine w_iLE (sqL_of (hp0.at ((((S6.drop 0).drop 0).drop 0).drop 0))) ?_
  refine for_lst (xs := as.map V.ref) (fun i σ H => ∃ (B3 : Hp) (rs : List (Nat × Nat)) (ra : List Addr) (v5 v6 : Option V), σ = [some (.ref wa), some (.ref h), some (.int (pos rows h0 s i : Nat)), some (.ref p), some (.ref z.a), v5, v6] ∧ Hs B3 (ycc rows z ⟨h0, one s, rs⟩ ra ++ M) H ∧ Same B2 B3 ∧ xsum rs = odo rows h0 s i ∧ ra.length = i)
    ⟨B2, [], [], none, none, rfl, S6, Same.refl B2, rfl, rfl⟩ (fun i σ H _ ⟨B3, _, _, _, _, _, S7, e3, _⟩ => sqL_of ((hp0.up e3).at ((((S7.drop 0).drop 0).drop 0).drop 0))) ?_ ?_
  · clear S6
    rintro i x σ H6 hxi ⟨B3, rs, ra, v5, v6, rfl, S7, e3, hxs, hra⟩
    obtain ⟨b, hb, rfl⟩ : ∃ b, as[i]? = some b ∧ V.ref b = x := by simpa using hxi
    have hin : i < n := by have := (List.getElem?_eq_some_iff.mp hb).1; omega
    have hbt : B2 b = some (.tup [.int (pos rows h0 s i : Nat), .int (hx rows h0 (odo rows h0 s i) (pos rows h0 s i))]) := hws.get (q := way rows h0 s i) hb (by rw [List.getElem?_map, List.getElem?_range hin]; rfl)
    have hp := pos_lt (h0 := h0) hv hl hs i
    have I3 := I.mono e3
    have hdy3 := e3 _ _ hdy
    refine w_gtup (sqT_of (S7.ex _ _ (e3 _ _ hbt))) rfl ?_
    walk_at "go"
    refine w_neS rfl ?_
    walk_at "go"
    rw [decide_eq_true rfl]
    refine iteF ?_
    walk_at "go"
    refine w_methE (S7.ex _ _ hdy3) (lk0 (by decide +kernel) (by decide +kernel) (by decide +kernel) (by decide +kernel) (by decide +kernel) (by decide +kernel)) ?_
    walk_at "go"
    refine ⟨B3, _, z, rows, hx rows h0 (odo rows h0 s i), rows.length, 0, rfl, S7, I3, by rw [← hxs]; rfl, fun p1 H7 S8 => ?_⟩
    walk_at "go"
    refine w_ixL (sqL_of (S8.get 0)) (atI_nat (vec_getV hp)) ?_
    have S9 := S8.drop 0
    have S9 : Hs B3 (ycc rows z ⟨h0, one s, rs⟩ ra ++ M) H7 := S9
    clear S7 S8
    walk_at "go"
    refine w_neS rfl ?_
    walk_at "go"
    rw [decide_eq_true rfl]
    refine iteF ?_
    walk_at "go"
    refine w_methE (S9.ex _ _ hdy3) (lk0 (by decide +kernel) (by decide +kernel) (by decide +kernel) (by decide +kernel) (by decide +kernel) (by decide +kernel)) ?_
    walk_at "go"
    have hwx : wx rows h0 (one s) (odo rows h0 s i) (pos rows h0 s i) = 1 := by rw [wk_wx hv hl hs]; unfold one; rw [if_pos rfl]
    refine ⟨B3, M, z, rows, ⟨h0, one s, rs⟩, ra, .int (pos rows h0 s i : Nat), true, rfl, S9, I3, hv, plD_int (by omega) (by omega), fun _ i' ei hi => .inr ?_, fun w => (nomatch w)⟩
    obtain rfl : pos rows h0 s i = i' := by have := V.int.inj ei; omega
    refine ⟨hl _ hp, by show wx rows h0 (one s) (xsum rs) _ ≠ 0; rw [hxs, hwx]; decide, by omega, fun B4 tq H8 e4 _ S10 => ?_⟩
    have hxs' : xsum (rs ++ [(pos rows h0 s i, 1)]) = odo rows h0 s (i + 1) := by rw [xsum_snoc, hxs]; rfl
    have hpt : ptx rows (YS.mk h0 (one s) rs).h0 (YS.mk h0 (one s) rs).x (pos rows h0 s i) = ((pos rows h0 s (i + 1) : Nat) : Int) := by
      show ptx rows h0 (xsum rs) (pos rows h0 s i) = _
      rw [hxs, pos_succ hv hl hs]
    rw [hpt]
    walk_at "go"
    exact ⟨B4, rs ++ [(pos rows h0 s i, 1)], ra ++ [tq], _, _, rfl, S10, e3.trans e4, hxs', by simp [hra]⟩
  · rintro σ H6 ⟨B3, rs, ra, v5, v6, rfl, S7, e3, _, _⟩
    walk_at "go"
    exact hQ B3 H6 (e2.trans e3) ((((S7.drop 0).drop 0).drop 0).drop 0)
end
end Rw

set_option maxHeartbeats 4000000
namespace Rw
open PySem PySem.Spec PyProof.Rows L2
local macro_rules | `(tactic| walk_at "go1") => `(tactic| first
  | (with_reducible refine w_seq ?_)
  | (with_reducible refine w_asg ?_)
  | (with_reducible refine w_name ?_)
  | (with_reducible refine w_drop ?_)
  | (with_reducible refine w_ret ?_)
  | (with_reducible refine w_next ?_)
  | (with_reducible refine w_op ?_)
  | (with_reducible refine w_un ?_)
  | (with_reducible refine w_c ?_)
  | (with_reducible refine w_var (by with_unfolding_all rfl) ?_)
  | (with_reducible refine w_rI0 ?_)
  | (with_reducible refine w_rU ?_)
  | ((with_reducible refine w_mod ?_ ?_); (show (0 : Int) < _); omega)
  | ((with_reducible refine w_div ?_ ?_); exact And.intro (by omega) (by omega))
  | ((with_reducible refine w_mul ?_ ?_); (first | exact Or.inl (And.intro (by omega) (by omega)) | exact Or.inr (And.intro (by omega) (by omega))))
  | (with_reducible refine w_ifS ?_)
  | (with_reducible refine w_if ?_)
  | (with_reducible refine w_test ?_)
  | (with_reducible refine w_B ?_)
  | (with_reducible refine w_bl ?_)
  | (with_reducible refine w_not ?_)
  | (with_reducible refine w_and ?_)
  | (with_reducible refine w_or ?_)
  | (with_reducible refine w_cons ?_)
  | (with_reducible refine w_nil ?_)
  | (with_reducible refine w_call ?_)
  | (with_reducible refine w_cb ?_)
  | (with_reducible refine w_bm0 ?_)
  | (with_reducible refine w_bm ?_)
  | (with_reducible refine w_tlst ?_)
  | (with_reducible refine w_ttup ?_)
  | (with_reducible refine w_sub ?_)
  | (with_reducible refine w_for ?_)
  | (with_reducible refine w_rng1 ?_)
  | ((with_reducible refine w_rngE ?_ ?_ ?_); omega; omega)
  | (with_reducible refine w_iL ?_)
  | (with_reducible refine w_iT ?_)
  | (with_reducible refine w_iE ?_)
  | (with_reducible refine w_iZ ?_)
  | (with_reducible refine w_lc ?_)
  | (with_reducible refine w_yes ?_)
  | (with_reducible refine w_gcons ?_)
  | (with_reducible refine w_gnil ?_)
  | (with_reducible refine w_max2 ?_)
  | (with_reducible refine w_sl ?_)
  | (with_reducible refine w_part ?_)
  | (with_reducible refine w_partI ?_)
  | (with_reducible refine w_nopart ?_)
  | (with_reducible refine w_isT ?_)
  | (with_reducible refine w_notT ?_)
  | (with_reducible refine w_isB ?_)
  | (with_reducible refine w_notB ?_)
  | (with_reducible refine w_isN ?_)
  | (with_reducible refine w_notN ?_)
  | (with_reducible refine w_fld ?_)
  | (with_reducible refine w_ftm ?_)
  | (with_reducible refine w_lrg ?_)
  | (with_reducible refine w_rg1 ?_)
  | (with_reducible refine w_rg1E ?_)
  | (with_reducible refine w_tru ?_)
  | (with_reducible refine w_truB ?_)
  | (with_reducible refine w_truI ?_)
  | (with_reducible refine w_notT' ?_)
  | (with_reducible refine w_andT ?_)
  | (with_reducible refine w_orT ?_)
  | (with_reducible refine w_andV ?_)
  | (with_reducible refine w_orV ?_)
  | (with_reducible refine w_andE ?_)
  | (with_reducible refine w_orE ?_)
  | (with_reducible refine w_notV ?_)
  | (with_reducible refine w_notE ?_)
  | (with_reducible refine w_chain ?_)
  | (with_reducible refine w_chainI ?_)
  | (with_reducible refine w_meth ?_)
  | (with_reducible refine w_make ?_)
  | (with_reducible refine w_sfld ?_))
local macro_rules | `(tactic| walk_at "go") => `(tactic| repeat walk_at "go1")

local macro_rules | `(tactic| walk_at "go1") => `(tactic| first
  | (with_reducible refine w_callX ?_)
  | (with_reducible refine w_methX ?_)
  | (with_reducible refine w_makeX ?_)
  | (with_reducible refine w_augS ?_)
  | (with_reducible refine w_ipI ?_))
-- law: 0 _law_script, 1 _law_k, 2 _law_cell, 3 _law_rows_here, 4 _law_hands_here, 5 _law_place, 6 _law_ways, 7 _law_due_here, 8 _law_web, 9 _law_found, 10 _law_steps, 11 _law_later, 12 _law_here, 13 _law_again, 14 _law_row
abbrev s_law : Stmt := top 39
theorem sc_law : FnScope ["_law_script", "_law_k", "_law_cell", "_law_rows_here", "_law_hands_here", "_law_place", "_law_ways", "_law_due_here", "_law_web", "_law_found", "_law_steps", "_law_later", "_law_here", "_law_again", "_law_row"] ["_law_script"] (defScope s_law) := ⟨rfl, rfl, rfl, by decide +kernel, rfl, by decide +kernel, by decide +kernel⟩
def spLaw (K : PySem.W.Frag) : Sp := fun vs H Q _ => ∃ (a : Addr) (ns : List Int), vs = [.ref a] ∧ SqL K H a (ns.map V.int) ∧ ns.length ≤ 63 ∧ ∀ H', Q (.bl true) H'
structure NamesS (mg : Str → Option Value) : Prop extends NamesL mg where
  n_set : mg "set" = none
theorem sql_up {K : PySem.W.Frag} {H H' : Hp} {a : Addr} {xs : List V} (h : SqL K H a xs) (e : Same H H') : SqL K H' a xs := by
  rcases h with (h | ⟨o, h⟩) | h
  · exact .inl (.inl (e _ _ h))
  · exact .inl (.inr ⟨o, e _ _ h⟩)
  · exact .inr h
theorem cutV_ints (ns : List Int) (lo hi : Option Int) : ∃ zs : List Int, cutV (ns.map V.int) lo hi = zs.map V.int ∧ zs.length ≤ ns.length := by
  unfold cutV
  refine ⟨(ns.drop (HT.sIx (ns.map V.int).length 0 lo)).take (HT.sIx (ns.map V.int).length (ns.map V.int).length hi - HT.sIx (ns.map V.int).length 0 lo), ?_, ?_⟩
  · rw [List.map_take, List.map_drop]
  · rw [List.length_take, List.length_drop]
    omega
/-! ### one round only -/
theorem Rho.one {rows : List (List Int)} {h0 : Nat → Int} {s m a b : Nat} (h : Rho rows h0 s m a) (h' : Rho rows h0 s m b) : a = b := by
  rcases Nat.lt_trichotomy a b with c | c | c
  · exact absurd h.again (h'.first a c)
  · exact c
  · exact absurd h'.again (h.first b c)
/-- from where the round begins nothing is ahead -/
theorem Rho.from_ {rows : List (List Int)} {h0 : Nat → Int} {s m ah a : Nat} (hv : Valid rows) (hl : Live rows) (hs : s < rows.length) (h : Rho rows h0 s m ah) (h' : Rho rows (hx rows h0 (odo rows h0 s ah)) (pos rows h0 s ah) m a) :
    a = 0 ∧ roundW rows (hx rows h0 (odo rows h0 s ah)) (pos rows h0 s ah) a m = roundW rows h0 s ah m := by
  have on := fun k => wk_on (h0 := h0) hv hl hs ah k
  have ho := fun k v => hx_on (h0 := h0) hv hl hs ah k v
  have a0 : a = 0 := Nat.eq_zero_of_not_pos fun z => by
    refine h'.first 0 z ⟨?_, fun v hvn => ?_⟩
    · rw [← (on 0).1, ← (on (0 + m)).1, Nat.zero_add]
      exact h.again.1
    · rw [← ho 0, ← ho (0 + m), Nat.zero_add]
      exact h.again.2 v hvn
  refine ⟨a0, ?_⟩
  subst a0
  unfold roundW
  refine List.map_congr_left fun k _ => ?_
  unfold way
  rw [Nat.zero_add, (on k).1, ho k]
/-- gone on: the ways of two rounds -/
theorem rounds_ways {rows : List (List Int)} {h0 : Nat → Int} {s m ah : Nat} (hv : Valid rows) (hl : Live rows) (hs : s < rows.length) (h : Rho rows h0 s m ah) :
    ((List.range ah).map (way rows h0 s) ++ roundW rows h0 s ah m) ++ roundW rows h0 s ah m = (List.range (ah + m + m)).map (way rows h0 s) := by
  have e1 : (List.range ah).map (way rows h0 s) ++ roundW rows h0 s ah m = (List.range (ah + m)).map (way rows h0 s) := by
    rw [List.range_add, List.map_append, List.map_map]; rfl
  have e2 : roundW rows h0 s ah m = roundW rows h0 s (ah + m) m := roundW_eq.mpr fun k _ => (h.again.on hv hl hs k).way hv hl hs
  have e3 : (List.range (ah + m + m)).map (way rows h0 s) = (List.range (ah + m)).map (way rows h0 s) ++ roundW rows h0 s (ah + m) m := by
    rw [List.range_add, List.map_append, List.map_map]; rfl
  rw [e1, e2, e3]
/-- the data of what is told -/
def dRd (ah : Nat) (ws : List (Nat × Int)) : PyData := .tuple [.int ah, dWy ws]
theorem dp_rd {K : PySem.W.Frag} {H : Hp} {t p : Addr} {ah : Nat} {as : List Addr} {ws : List (Nat × Int)} (h : H t = some (.tup [.int ah, .ref p])) (h1 : H p = some (.lst (as.map V.ref))) (hw : WaysB H as ws) : Dp K H (.ref t) (dRd ah ws) := .tup (sqT_of h) (.cons (.int _) (.cons (dp_ways h1 hw) .nil))
theorem shp_rd (ah : Nat) (ws : List (Nat × Int)) : Shp 3 (dRd ah ws) := shp_tup fun d hd => by
  simp at hd
  rcases hd with rfl | rfl
  · exact (shp_int _).mono (by decide)
  · exact shp_dWy _
theorem w_neRd {K : PySem.W.Frag} {H : Hp} {Q : VK} {x y : V} {ah : Nat} {ws : List (Nat × Int)} (h : Dp K H x (dRd ah ws)) (h2 : Dp K H y (dRd ah ws)) (k : Q (.bl false) H) : rNeD K x y H Q :=
  w_neD h h2 (shp_rd _ _).shaped (shp_rd _ _).shaped (by rw [SeqAt.eqv_refl _ (shp_rd ah ws).lay]; exact k)
theorem round_nd {rows : List (List Int)} {h0 : Nat → Int} {s m ah : Nat} (h : Rho rows h0 s m ah) : (roundW rows h0 s ah m).Nodup := by
  unfold roundW
  rw [List.nodup_iff_pairwise_ne, List.pairwise_map]
  refine List.Pairwise.imp_of_mem ?_ (List.pairwise_lt_range)
  intro i j hi hj hij
  exact h.each i j hij (by simpa using hj)
theorem ways_ks {B : Hp} : ∀ {as : List Addr} {ws : List (Nat × Int)}, WaysB B as ws → ∃ ks : List (Addr × List Int), ks.map (·.1) = as ∧ ks.map (·.2) = ws.map (fun q => [(q.1 : Int), q.2]) ∧ ∀ p ∈ ks, B p.1 = some (.tup (p.2.map V.int))
  | _, _, .nil => ⟨[], rfl, rfl, fun _ h => nomatch h⟩
  | _, _, .cons (a := a) (b := q) r t => by
    obtain ⟨ks, h1, h2, h3⟩ := ways_ks t
    refine ⟨(a, [(q.1 : Int), q.2]) :: ks, by simp [h1], by simp [h2], fun p hp => ?_⟩
    rcases List.mem_cons.mp hp with rfl | hp
    · exact r
    · exact h3 p hp
theorem ways_nd {ws : List (Nat × Int)} (h : ws.Nodup) : (ws.map (fun q => [(q.1 : Int), q.2])).Nodup := by
  rw [List.nodup_iff_pairwise_ne, List.pairwise_map]
  refine List.Pairwise.imp ?_ (List.nodup_iff_pairwise_ne.mp h)
  rintro ⟨a1, a2⟩ ⟨b1, b2⟩ hne e
  have e1 := (List.cons.inj e).1
  have e2 := (List.cons.inj (List.cons.inj e).2).1
  exact hne (by rw [show a1 = b1 by have : (a1 : Int) = (b1 : Int) := e1; omega, show a2 = b2 from e2])
theorem Paired.appendP {α β : Type} {F : α → β → Prop} : ∀ {l₁ l₃ : List α} {l₂ l₄ : List β}, Paired F l₁ l₂ → Paired F l₃ l₄ → Paired F (l₁ ++ l₃) (l₂ ++ l₄)
  | _, _, _, _, .nil, h => h
  | _, _, _, _, .cons r t, h => .cons r (Paired.appendP t h)
theorem ways_sum (rows : List (List Int)) : (rows.map fun r => ((r.length : Nat) : Int)).sum = ways rows := by
  unfold ways
  rw [← sum_vec]
  congr 1
  refine List.ext_getElem? fun i => ?_
  by_cases hi : i < rows.length
  · rw [vec_get hi, List.getElem?_map, rowOf_get hi]; rfl
  · rw [List.getElem?_eq_none (by simpa using hi), List.getElem?_eq_none (by simpa using hi)]
section
variable {P : Program} {w : World} {K : PySem.W.Frag} {mg : Str → Option Value} {base : Heap} {CY CW CN CH CP CC CS : Addr}
theorem ok_law (T : NamesS mg) (T_Web : Cls K CW) (T_Yard : Cls K CY) (G : Glo K mg "law" s_law) (C_law_mixed : Cal P w K mg base "_law_mixed" 8 ["_law_cell", "_law_k"] spMixed) (C_law_even : Cal P w K mg base "_law_even" 8 ["_law_cell", "_law_k"] spEven) (C_law_hands : Cal P w K mg base "_law_hands" 8 ["_law_rows_here", "_law_cell", "_law_k"] spHandsL)
    (C_law_due : Cal P w K mg base "_law_due" 8 ["_law_rows_here", "_law_hands_here", "_law_place", "_law_ways"] spDue) (C_law_walked : Cal P w K mg base "_law_walked" 8 ["_law_rows_here", "_law_hands_here", "_law_place", "_law_many"] spWalked) (C_law_gone_on : Cal P w K mg base "_law_gone_on" 8 ["_law_web", "_law_hands_here", "_law_place", "_law_steps"] (spGoneOn CW))
    (C_round_of : Cal P w K mg base "round_of" 8 ["web", "hands", "place"] (noE (spRoundX CW CN CH CP))) (C_Web : CalC P w K mg base CW "Web" 7 ["self", "rows"] (spInit CW)) : Cal P w K mg base "law" 9 ["_law_script"] (spLaw K) := by
  refine G.cal (k := 8) sc_law (fun _ _ _ _ _ _ us hl => match us, hl with | [_], _ => rfl) (fun vs H Q E h => ?_) (fun f cdv A outer s H vs Q E hr h => ?_)
  · obtain ⟨a, ns, rfl, _⟩ := h; rfl
  obtain ⟨a, ns, rfl, hS, hn, hQ⟩ := h
  refine ⟨_, (pss_cons (ps_for PassesOwn.never rfl (pi_enumK K rfl T.n_enumerate (pa_cons (pe_op op_cat (pe_lst (pa_cons pe_int pa_nil)) (pe_slice (k_slL K) (pv 0) po_none (po_some pe_int))) pa_nil)) (pg_tupK (n := 2) K rfl (pgs_cons (pg_name (i := 1) sc_law.nd rfl (Or.inl rfl)) (pgs_cons (pg_name (i := 2) sc_law.nd rfl (Or.inl rfl)) pgs_nil))) (pss_cons (ps_set (i := 3) sc_law.nd rfl (Or.inl rfl) (pe_cal C_law_even hr rfl (pa_cons (pv 2) (pa_cons (pv 1) pa_nil)))) (pss_cons (ps_set (i := 4) sc_law.nd rfl (Or.inl rfl) (pe_cal C_law_hands hr rfl (pa_cons (pv 3) (pa_cons (pv 2) (pa_cons (pe_op op_add (pv 1) pe_int) pa_nil))))) (pss_cons (ps_set (i := 5) sc_law.nd rfl (Or.inl rfl) (pe_op op_mod (pe_cal C_law_mixed hr rfl (pa_cons (pv 2) (pa_cons (pe_op op_add (pv 1) pe_int) pa_nil))) (pe_callB (k_len K) rfl T.n_len boot_len (pa_cons (pv 3) pa_nil)))) (pss_cons (ps_set (i := 6) sc_law.nd rfl (Or.inl rfl) (pe_callB (k_sum K rfl) rfl T.n_sum (by decide +kernel) (pa_cons (pe_lc (own := [("_law_row", 14)]) rfl sc_law.nd (pi_listK K (pv 3)) (blkOk_by (own := [("_law_row", 14)]) (N := ["_law_script", "_law_k", "_law_cell", "_law_rows_here", "_law_hands_here", "_law_place", "_law_ways", "_law_due_here", "_law_web", "_law_found", "_law_steps", "_law_later", "_law_here", "_law_again", "_law_row"]) (sc := defScope s_law) (by decide +kernel)) (fun _ _ _ _ _ => (pg_name (i := 14) sc_law.nd rfl (Or.inl rfl))) (fun _ _ _ _ _ => pts_nil) (fun _ _ _ _ _ => (pe_callB (k_len K) rfl T.n_len boot_len (pa_cons (pv 14) pa_nil)))) pa_nil))) (pss_cons (ps_set (i := 7) sc_law.nd rfl (Or.inl rfl) (pe_cal C_law_due hr rfl (pa_cons (pv 3) (pa_cons (pv 4) (pa_cons (pv 5) (pa_cons (pv 6) pa_nil)))))) (pss_cons (ps_set (i := 8) sc_law.nd rfl (Or.inl rfl) (pe_mk C_Web hr rfl (pa_cons (pv 3) pa_nil))) (pss_cons (ps_set (i := 9) sc_law.nd rfl (Or.inl rfl) (pe_cal C_round_of hr rfl (pa_cons (pv 8) (pa_cons (pv 4) (pa_cons (pv 5) pa_nil))))) (pss_cons (ps_if (PW.pt (pw_or (pt_not (pt_val (pe_callB (k_isi K) rfl T.n_isinstance (by decide +kernel) (pa_cons (pv 9) (pa_cons (pe_bltn (v := .ty "tuple") rfl T.n_tuple (by decide +kernel) rfl) pa_nil))))) (pw_or (pt_not (pt_val (pe_callB (k_isi K) rfl T.n_isinstance (by decide +kernel) (pa_cons (pe_ix (k_ixT K) (pv 9) pe_int (fun _ _ => rfl)) (pa_cons (pe_bltn (v := .ty "list") rfl T.n_list (by decide +kernel) rfl) pa_nil))))) (pw_or1 (pt_cmpR (k_neD K hr.units) (pv 9) (pv 7) (nomark _)))))) (pss_one (ps_ret pe_bl)) pss_nil) (pss_cons (ps_if (PW.pt (pw_or (pt_cmpR op_gt (pe_ix (k_ixT K) (pv 9) pe_int (fun _ _ => rfl)) (pe_op op_mul (pv 6) (pe_callB (k_len K) rfl T.n_len boot_len (pa_cons (pv 3) pa_nil))) (nomark _)) (pw_or (pt_cmpR op_ne (pe_callB (k_lenT P w K) rfl T.n_len boot_len (pa_cons (pe_callTy (k_setT P w K rfl hr.units) rfl T.n_set (by decide +kernel) (pa_cons (pe_ix (k_ixT K) (pv 9) pe_int (fun _ _ => rfl)) pa_nil)) pa_nil)) (pv 6) (nomark _)) (pw_or1 (pt_val (pe_callB (k_isi K) rfl T.n_isinstance (by decide +kernel) (pa_cons (pe_ix (k_ixT K) (pv 9) pe_int (fun _ _ => rfl)) (pa_cons (pe_bltn (v := .ty "bool") rfl T.n_bool (by decide +kernel) rfl) pa_nil)))))))) (pss_one (ps_ret pe_bl)) pss_nil) (pss_cons (ps_asg (pe_cal C_law_walked hr rfl (pa_cons (pv 3) (pa_cons (pv 4) (pa_cons (pv 5) (pa_cons (pe_ix (k_ixT K) (pv 9) pe_int (fun _ _ => rfl)) pa_nil))))) (pg_tupK (n := 3) K rfl (pgs_cons (pg_name (i := 10) sc_law.nd rfl (Or.inl rfl)) (pgs_cons (pg_name (i := 11) sc_law.nd rfl (Or.inl rfl)) (pgs_cons (pg_name (i := 12) sc_law.nd rfl (Or.inl rfl)) pgs_nil))))) (pss_cons (ps_if (pt_not (pt_val (pe_cal C_law_gone_on hr rfl (pa_cons (pv 8) (pa_cons (pv 4) (pa_cons (pv 5) (pa_cons (pe_op op_cat (pe_op op_cat (pv 10) (pe_ix (k_ixT K) (pv 9) pe_int (fun _ _ => rfl))) (pe_ix (k_ixT K) (pv 9) pe_int (fun _ _ => rfl))) pa_nil))))))) (pss_one (ps_ret pe_bl)) pss_nil) (pss_cons (ps_set (i := 13) sc_law.nd rfl (Or.inl rfl) (pe_callTy (k_list K) rfl T.n_list (by decide +kernel) (pa_cons (pe_ix (k_ixT K) (pv 9) pe_int (fun _ _ => rfl)) pa_nil))) (pss_cons (ps_expr (pe_bm0K K PySem.F.plainAttrs_list PySem.F.slot_list_clear PySem.F.type_list_clear mt_clear (pe_ix (k_ixT K) (pv 9) pe_int (fun _ _ => rfl)))) (pss_one (ps_if (PW.pt (pw_or (pt_cmpR (k_neD K hr.units) (pe_cal C_round_of hr rfl (pa_cons (pv 8) (pa_cons (pv 11) (pa_cons (pv 12) pa_nil)))) (pe_tup (pa_cons pe_int (pa_cons (pv 13) pa_nil))) (nomark _)) (pw_or1 (pt_cmpR (k_neD K hr.units) (pe_cal C_round_of hr rfl (pa_cons (pv 8) (pa_cons (pv 4) (pa_cons (pv 5) pa_nil)))) (pv 7) (nomark _))))) (pss_one (ps_ret pe_bl)) pss_nil)))))))))))))))) (pss_one (ps_ret pe_bl))), ?_⟩
  walk_at "go"
  refine w_lst (Hs.nil H) (len_ok (by simp)) fun p3 H1 S1 => ?_
  walk_at "go"
  refine w_slice S1 (sql_up hS S1.ex) fun p4 H2 S2 => ?_
  obtain ⟨zs, ez, hz⟩ := cutV_ints ns none (some 63)
  rw [ez] at S2
  refine w_cat S2 (S2.get 1) (S2.get 0) (by rw [sizeLine_eq]; simp; omega) fun p1 H3 S3 => ?_
  replace S3 : H3 p1 = some (.lst ((3 :: zs).map V.int)) := S3.get 0
  have hz64 : (3 :: zs).length ≤ 64 := by simp; omega
  clear S1 S2
  generalize (3 :: zs) = cs at *
  walk_at "go"
  refine w_iEE (sqL_of S3) ?_
  refine for_enu (xs := cs.map V.int) (fun i σ H => ∃ v1 v2 v3 v4 v5 v6 v7 v8 v9 v10 v11 v12 v13 v14 : Option V, σ = [some (.ref a), v1, v2, v3, v4, v5, v6, v7, v8, v9, v10, v11, v12, v13, v14] ∧ H p1 = some (.lst (cs.map V.int)))
    ⟨_, _, _, _, _, _, _, _, _, _, _, _, _, _, rfl, S3⟩ (fun i σ H _ ⟨_, _, _, _, _, _, _, _, _, _, _, _, _, _, _, h⟩ => sqL_of h) ?_ ?_
  · clear S3
    rintro i x σ H4 T0' hxi ⟨v1, v2, v3, v4, v5, v6, v7, v8, v9, v10, v11, v12, v13, v14, rfl, hp1⟩ hT0
    obtain ⟨cell, hc, rfl⟩ : ∃ c, cs[i]? = some c ∧ V.int c = x := by
      rw [List.getElem?_map] at hxi
      exact Option.map_eq_some_iff.mp hxi
    have hi64 : i < 64 := by have := (List.getElem?_eq_some_iff.mp hc).1; omega
    have S1 := (Hs.nil H4).new hT0 (.tup [.int (i : Int), .int cell])
    generalize upd H4 T0' (.tup [.int (i : Int), .int cell]) = H5 at S1
    refine w_gtup (sqT_of (S1.get 0)) rfl ?_
    have hp1 := S1.ex _ _ hp1
    clear S1 hT0 hxi
    walk_at "go"
    refine ⟨H5, [], cell, (i : Int), rfl, by omega, by omega, Hs.nil H5, fun rs q B1 H6 hv he e1 S2 hL => ?_⟩
    have hle := hv.le
    have hpos := hv.pos
    have hp1 := e1 _ _ hp1
    obtain ⟨hl, hb, hj⟩ := even_in hv he
    walk_at "go"
    refine ⟨B1, [], q, rs, cell, (i : Int) + 80, rfl, S2, hL, hle, by omega, by omega, fun hp H7 S3 => ?_⟩
    have hh := handsOf_ok rs cell ((i : Int) + 80)
    generalize handsOf rs cell ((i : Int) + 80) = h0 at *
    obtain ⟨B2, e2, hhp, S4⟩ := S3.shut 0
    have hL := hL.mono e2
    have hp1 := e2 _ _ hp1
    clear S2 S3 e1 e2
    walk_at "go"
    refine ⟨cell, (i : Int) + 95, rfl, by omega, by omega, ?_⟩
    have n0 := mixed_nn cell ((i : Int) + 95)
    generalize mixed cell ((i : Int) + 95) = num at *
    walk_at "go"
    obtain ⟨ls, hls, hlR⟩ := id hL
    have hlsl := hlR.length
    refine w_len (sqL_of (S4.ex _ _ hls)) ?_
    rw [List.length_map, hlsl]
    refine w_mod (j := (rs.length : Nat)) (by omega) ?_
    have b0 := Int.emod_nonneg num (show ((rs.length : Nat) : Int) ≠ 0 by omega)
    have b1 := Int.emod_lt_of_pos num (show (0 : Int) < ((rs.length : Nat) : Int) by omega)
    obtain ⟨s0, es⟩ : ∃ t : Nat, num % ((rs.length : Nat) : Int) = t := ⟨(num % ((rs.length : Nat) : Int)).toNat, by omega⟩
    rw [es] at b0 b1 ⊢
    have hs : s0 < rs.length := by omega
    walk_at "go"
    refine w_iLE (sqL_of (S4.ex _ _ hls)) ?_
    refine lc_L S4 hls (fun j B' acc => B' = B2 ∧ acc = ((rs.take j).map fun r => ((r.length : Nat) : Int)).map V.int) ⟨rfl, rfl⟩ ?_ ?_
    · clear S4
      rintro j x D B' acc H' hxj hlj e S' ⟨rfl, rfl⟩
      obtain ⟨b', hb', rfl⟩ : ∃ b, ls[j]? = some b ∧ V.ref b = x := by simpa using hxj
      have hjl : j < ls.length := (List.getElem?_eq_some_iff.mp hb').1
      obtain ⟨r, hr1, hr2⟩ : ∃ r, rs[j]? = some r ∧ LI B' b' r := by
        have hjr : j < rs.length := by omega
        obtain ⟨c, h1, h2⟩ := hlR.get (i := j) (List.getElem?_eq_getElem hjr)
        rw [hb'] at h1; cases h1
        exact ⟨_, List.getElem?_eq_getElem hjr, h2⟩
      walk_at "go"
      refine ⟨rfl, ?_⟩
      walk_at "go"
      refine iteT ?_
      walk_at "go"
      refine w_len (sqL_of (S'.ex _ _ hr2)) ?_
      refine lcp S' (Same.refl _) hlj (by omega) ⟨rfl, ?_⟩
      rw [List.take_add_one, hr1]
      simp
    rintro D B' acc H' e S' hlj ⟨rfl, rfl⟩
    have e0 : rs.take (ls.map V.ref).length = rs := List.take_of_length_le (by simp; omega)
    rw [e0] at S'
    walk_at "go"
    refine w_sum (sqL_of (S'.get 0)) ?_
    rw [ways_sum]
    have S5 := S'.drop 0
    have S5 : Hs B' [] H' := S5
    have hw24 := ways_le hv
    obtain ⟨m, hm⟩ : ∃ m : Nat, (m : Int) = ways rs := ⟨(ways rs).toNat, by omega⟩
    obtain ⟨hm0, ah, hr0⟩ := rho_ex (h0 := h0) hv hl hb hj hh hs hm
    have hm24 : m ≤ 24 := by omega
    have hah := hr0.le
    have hmn : rs.length * m ≤ 8 * 24 := Nat.mul_le_mul hle hm24
    rw [← hm]
    clear S' S4 e hlj e0
    walk_at "go"
    refine ⟨B', [], q, hp, rs, h0, s0, m, ah, rfl, S5, hL, hv, hl, Stay.ofB hhp, hh, hs, hm0, hm24, hr0, fun B3 H8 tq tl as e3 htq htl hws S6 => ?_⟩
    have hL := hL.mono e3
    have hhp := e3 _ _ hhp
    have hp1 := e3 _ _ hp1
    walk_at "go"
    refine w_makeXE S6 fun wa dx H9 S7 => ?_
    refine ⟨B3, [], wa, dx, q, rs, rfl, S7, hL, hv, fun B4 H10 e4 S8 hW => ⟨rfl, ?_⟩⟩
    have hL := hL.mono e4
    have hhp := e4 _ _ hhp
    have hp1 := e4 _ _ hp1
    have htq := e4 _ _ htq
    have htl := e4 _ _ htl
    have hws := hws.up e4
    clear S5 S6 S7 e3 e4 hls hlR
    walk_at "go"
    refine ⟨B4, [], wa, rs, .ref hp, .int (s0 : Nat), true, true, h0, rfl, S8, hW, hv, .lst (Stay.ofB hhp) hh, plD_int (by omega) (by omega), fun _ _ _ s' m' ah' B5 H11 tq2 tl2 as2 es' _ hm' _ hr1 e5 htq2 hws2 S9 => ?_, fun w => absurd he w, fun _ w => (nomatch w), fun _ _ w => (nomatch w)⟩
    obtain rfl : s0 = s' := by have := V.int.inj es'; omega
    obtain rfl : m = m' := by omega
    obtain rfl := hr0.one hr1
    have hL := hL.mono e5
    have hW := hW.mono e5
    have hhp := e5 _ _ hhp
    have hp1 := e5 _ _ hp1
    have htq := e5 _ _ htq
    have htl := e5 _ _ htl
    have hws := hws.up e5
    clear S8 e5 es' hm' hr1
    walk_at "go"
    refine w_isi (b := true) (.ty "tuple") (.base (.tup (S9.ex _ _ htq2))) (kit_ty (by decide +kernel)) ?_
    walk_at "go"
    refine iteF ?_
    walk_at "go"
    refine w_ixT (sqT_of (S9.ex _ _ htq2)) (atI_nat (j := 1) rfl) ?_
    walk_at "go"
    refine w_isi (b := true) (.ty "list") (.base (.lst (S9.get 0))) (kit_ty (by decide +kernel)) ?_
    walk_at "go"
    refine iteF ?_
    walk_at "go"
    refine w_neRd (dp_rd (S9.ex _ _ htq2) (S9.get 0) (hws2.up S9.ex)) (dp_rd (S9.ex _ _ htq) (S9.ex _ _ htl) (hws.up S9.ex)) ?_
    walk_at "go"
    refine iteF ?_
    walk_at "go"
    refine w_ixT (sqT_of (S9.ex _ _ htq2)) (atI_nat (j := 0) rfl) ?_
    walk_at "go"
    obtain ⟨ls2, hls, hlR⟩ := id hL
    have hlsl := hlR.length
    refine w_len (sqL_of (S9.ex _ _ hls)) ?_
    rw [List.length_map, hlsl]
    walk_at "go"
    have hgt : ¬ (m : Int) * ((rs.length : Nat) : Int) < (ah : Nat) := by
      have e : (m : Int) * ((rs.length : Nat) : Int) = ((rs.length * m : Nat) : Int) := by rw [Int.natCast_mul, Int.mul_comm]
      rw [e]
      omega
    rw [decide_eq_false hgt]
    refine iteF ?_
    walk_at "go"
    refine w_ixT (sqT_of (S9.ex _ _ htq2)) (atI_nat (j := 1) rfl) ?_
    walk_at "go"
    obtain ⟨ks, hk1, hk2, hk3⟩ := ways_ks hws2
    have hkl : ks.length = m := by
      have := congrArg List.length hk2
      unfold roundW at this
      simpa using this
    have hkm : as2.map V.ref = ks.map fun p => V.ref p.1 := by rw [← hk1, List.map_map]; rfl
    refine w_lenSetT (P := P) (w := w) (K := K) (fun x H1 z => w_nil z) S9 (ks := ks) (by rw [← hkm]; exact sqL_of (S9.get 0)) hk3 (by omega) (by rw [hk2]; exact ways_nd (round_nd hr0)) fun H12 S10 => ?_
    rw [hkl]
    clear S9 hk1 hk2 hk3 hkm
    walk_at "go"
    refine w_neS rfl ?_
    walk_at "go"
    rw [decide_eq_true rfl]
    refine iteF ?_
    walk_at "go"
    refine w_ixT (sqT_of (S10.ex _ _ htq2)) (atI_nat (j := 0) rfl) ?_
    walk_at "go"
    refine w_isiI (by decide +kernel : kitB "int" "bool" = some false) ?_
    walk_at "go"
    refine iteF ?_
    walk_at "go"
    refine w_ixT (sqT_of (S10.ex _ _ htq2)) (atI_nat (j := 0) rfl) ?_
    walk_at "go"
    refine ⟨B5, _, q, hp, rs, h0, s0, ah, rfl, S10, hL, hv, hl, Stay.ofB hhp, hh, hs, by omega, fun B6 H13 tq3 tl3 th3 as3 e6 htq3 htl3 hth3 hws3 S11 => ?_⟩
    refine w_gtup (sqT_of (S11.ex _ _ htq3)) rfl ?_
    have hW := hW.mono e6
    have hhp := e6 _ _ hhp
    have hp1 := e6 _ _ hp1
    have htq := e6 _ _ htq
    have htl := e6 _ _ htl
    have htq2 := e6 _ _ htq2
    have hws := hws.up e6
    have hws2 := hws2.up e6
    clear S10 e6 hL hls hlR
    walk_at "go"
    refine w_ixT (sqT_of (S11.ex _ _ htq2)) (atI_nat (j := 1) rfl) ?_
    have ha2 : as2.length = m := by have := Paired.length hws2; unfold roundW at this; simpa using this
    have ha3 : as3.length = ah := by have := Paired.length hws3; simpa using this
    refine w_cat S11 (S11.ex _ _ htl3) (S11.get 0) (by rw [sizeLine_eq]; simp; omega) fun c1 H14 S12 => ?_
    walk_at "go"
    refine w_ixT (sqT_of (S12.ex _ _ htq2)) (atI_nat (j := 1) rfl) ?_
    refine w_cat S12 (S12.get 0) (S12.get 1) (by rw [sizeLine_eq]; simp; omega) fun c2 H15 S13 => ?_
    clear S11 S12
    walk_at "go"
    have hway : WaysB B6 ((as3 ++ as2) ++ as2) ((List.range (ah + m + m)).map (way rs h0 s0)) := by
      rw [← rounds_ways hv hl hs hr0]
      exact Paired.appendP (Paired.appendP hws3 hws2) hws2
    refine ⟨B6, _, wa, hp, c2, rs, h0, s0, ah + m + m, (as3 ++ as2) ++ as2, rfl, S13, hW, hv, hl, Stay.ofB hhp, hh, hs, by omega, (by rw [List.map_append, List.map_append]; exact Stay.ofM 0), hway, fun B7 H16 e7 S14 => ?_⟩
    have S15 := (S14.drop 0).drop 0
    have S15 : Hs B7 [(tl2, .lst (as2.map V.ref))] H16 := S15
    have hW := hW.mono e7
    have hhp := e7 _ _ hhp
    have hp1 := e7 _ _ hp1
    have htq := e7 _ _ htq
    have htl := e7 _ _ htl
    have htq2 := e7 _ _ htq2
    have hth3 := e7 _ _ hth3
    have hws := hws.up e7
    have hws2 := hws2.up e7
    clear S13 S14 e7 hway htq3 htl3 hws3
    walk_at "go"
    refine iteF ?_
    walk_at "go"
    refine w_ixT (sqT_of (S15.ex _ _ htq2)) (atI_nat (j := 1) rfl) ?_
    walk_at "go"
    refine w_listL S15 (sqL_of (S15.get 0)) fun ag H17 S16 => ?_
    walk_at "go"
    refine w_ixT (sqT_of (S16.ex _ _ htq2)) (atI_nat (j := 1) rfl) ?_
    refine ⟨tyL (sqL_of (S16.get 1)), ?_⟩
    refine w_clear S16 1 rfl fun H18 S17 => ?_
    have S17 : Hs B7 [(ag, .lst (as2.map V.ref)), (tl2, .lst [])] H18 := S17
    clear S15 S16 htq2
    walk_at "go"
    have hps := pos_lt (h0 := h0) hv hl hs ah
    refine ⟨B7, _, wa, rs, .ref th3, .int (pos rs h0 s0 ah : Nat), true, true, hx rs h0 (odo rs h0 s0 ah), rfl, S17, hW, hv, .lst (Stay.ofB hth3) (hands_hx hl _), plD_int (by omega) (by omega), fun _ _ _ s' m' a' B8 H19 tq4 tl4 as4 es' _ hm' _ hr4 e8 htq4 hws4 S18 => ?_, fun w => absurd he w, fun _ w => (nomatch w), fun _ _ w => (nomatch w)⟩
    obtain rfl : pos rs h0 s0 ah = s' := by have := V.int.inj es'; omega
    obtain rfl : m = m' := by omega
    obtain ⟨rfl, ew⟩ := Rho.from_ hv hl hs hr0 hr4
    rw [ew] at hws4
    have hW := hW.mono e8
    have hhp := e8 _ _ hhp
    have hp1 := e8 _ _ hp1
    have htq := e8 _ _ htq
    have htl := e8 _ _ htl
    have hws := hws.up e8
    have hws2 := hws2.up e8
    clear S17 e8 es' hm' hr4 ew hth3
    walk_at "go"
    refine w_tup S18 (len_ok (by simp)) fun tq5 H20 S19 => ?_
    refine w_neRd (dp_rd (ah := 0) (S19.ex _ _ htq4) (S19.get 1) (hws4.up S19.ex)) (dp_rd (ah := 0) (S19.get 0) (S19.get 2) (hws2.up S19.ex)) ?_
    have S20 := (((S19.drop 0).drop 0).drop 0).drop 0
    have S20 : Hs B8 [] H20 := S20
    clear S18 S19 htq4 hws4 hws2
    walk_at "go"
    refine iteF ?_
    walk_at "go"
    refine ⟨B8, [], wa, rs, .ref hp, .int (s0 : Nat), true, true, h0, rfl, S20, hW, hv, .lst (Stay.ofB hhp) hh, plD_int (by omega) (by omega), fun _ _ _ s' m' a' B9 H21 tq6 tl6 as6 es' _ hm' _ hr6 e9 htq6 hws6 S21 => ?_, fun w => absurd he w, fun _ w => (nomatch w), fun _ _ w => (nomatch w)⟩
    obtain rfl : s0 = s' := by have := V.int.inj es'; omega
    obtain rfl : m = m' := by omega
    obtain rfl := hr0.one hr6
    have hp1 := e9 _ _ hp1
    walk_at "go"
    refine w_neRd (dp_rd (S21.ex _ _ htq6) (S21.get 0) (hws6.up S21.ex)) (dp_rd (S21.ex _ _ (e9 _ _ htq)) (S21.ex _ _ (e9 _ _ htl)) ((hws.up e9).up S21.ex)) ?_
    walk_at "go"
    refine iteF ?_
    walk_at "go"
    exact ⟨_, _, _, _, _, _, _, _, _, _, _, _, _, _, rfl, S21.ex _ _ hp1⟩
  · rintro σ H4 ⟨v1, v2, v3, v4, v5, v6, v7, v8, v9, v10, v11, v12, v13, v14, rfl, _⟩
    walk_at "go"
    exact hQ _
end
end Rw

set_option maxHeartbeats 0
namespace Rw
open PySem PySem.Spec PyProof.Rows L2
/-! ### the head: facts by names -/
def gD (x : Str) (st : Stmt) : He.DefD := { at_ := (x, none), name := x, qual := x, params := defArgs st, body := defBody st, scope := defScope st }
def mD (c m q : Str) (st : Stmt) : He.DefD := { at_ := (c, some m), name := m, qual := q, params := defArgs st, body := defBody st, scope := defScope st }
def mDd (c m q : Str) (st : Stmt) (d : List He.Dv) : He.DefD := { at_ := (c, some m), name := m, qual := q, params := defArgs st, body := defBody st, scope := defScope st, dfl := d }
def hfn : List He.DefD := [gD "_law_mixed" s_law_mixed, gD "is_number" s_is_number, gD "_is_row" s_is_row, gD "is_web" s_is_web, gD "are_numbers" s_are_numbers, gD "check_hands" s_check_hands, gD "_law_hands" s_law_hands, gD "_law_step" s_law_step, gD "_reached" s_reached, gD "_law_even" s_law_even, gD "_ways_in" s_ways_in, gD "round_of" s_round_of, gD "_law_walked" s_law_walked, gD "_law_due" s_law_due, gD "_law_gone_on" s_law_gone_on, gD "law" s_law, mD "Web" "many" "Web.many" s_Web_many, mD "Web" "check_place" "Web.check_place" s_Web_check_place, mD "Web" "is_rest" "Web.is_rest" s_Web_is_rest, mD "Web" "rows" "Web.rows" s_Web_rows, mD "Yard" "_turn" "Yard._turn" s_Yard_turn, mD "Yard" "_pointed" "Yard._pointed" s_Yard_pointed, mD "Yard" "_leave" "Yard._leave" s_Yard_leave, mD "Yard" "step" "Yard.step" s_Yard_step, mD "Yard" "hands" "Yard.hands" s_Yard_hands, mD "Web" "rests" "Web.rests" s_Web_rests, mD "Web" "_is_balanced" "Web._is_balanced" s_Web_is_balanced, mD "Web" "_is_joined" "Web._is_joined" s_Web_is_joined, mD "Web" "is_even" "Web.is_even" s_Web_is_even, mD "Web" "__init__" "Web.__init__" s_Web_init, mDd "Yard" "put" "Yard.put" s_Yard_put [.int 1], mDd "Yard" "__init__" "Yard.__init__" s_Yard_init [.non]]
def hfa : List He.Fa := [.glo "_law_mixed", .keep "_law_mixed", .glo "is_number", .keep "is_number", .glo "_is_row", .keep "_is_row", .glo "is_web", .keep "is_web", .glo "are_numbers", .keep "are_numbers", .glo "check_hands", .keep "check_hands", .glo "_law_hands", .keep "_law_hands", .glo "_law_step", .keep "_law_step", .glo "_reached", .keep "_reached", .glo "_law_even", .keep "_law_even", .glo "_ways_in", .keep "_ways_in", .glo "round_of", .keep "round_of", .glo "_law_walked", .keep "_law_walked", .glo "_law_due", .keep "_law_due", .glo "_law_gone_on", .keep "_law_gone_on", .glo "law", .keep "law", .meth "Web" "many", .meth "Web" "check_place", .meth "Web" "is_rest", .meth "Web" "rows", .meth "Yard" "_turn", .meth "Yard" "_pointed", .meth "Yard" "_leave", .meth "Yard" "step", .meth "Yard" "hands", .meth "Web" "rests", .meth "Web" "_is_balanced", .meth "Web" "_is_joined", .meth "Web" "is_even", .meth "Web" "__init__", .glo "Web", .mkr "Web", .meth "Yard" "put", .meth "Yard" "__init__", .glo "Yard", .mkr "Yard", .cls "Web", .cls "Yard", .noat "Web" "_ways", .noat "Yard" "_web", .noat "Yard" "_ways", .noat "Yard" "_hands", .noat "Yard" "_walkers", .noat "Yard" "_left", .noat "Yard" "_runs", .glo "BadHands", .exc "BadHands", .glo "BadPlace", .exc "BadPlace", .glo "BadCount", .exc "BadCount", .glo "NoStep", .exc "NoStep", .glo "NotEven", .exc "NotEven", .free "len", .free "range", .free "type", .free "list", .free "tuple", .free "int", .free "all", .free "any", .free "sum", .free "max", .free "zip", .free "enumerate", .free "divmod", .free "bool", .free "isinstance", .free "set", .int "MOST_PLACES" 8, .int "MOST_WAYS" 3, .int "MOST_WALKERS" 1000]
section
variable {K : PySem.W.Frag} {h : Heap} {mg : Str → Option Value}
theorem funD_fun {x q : Str} {st : Stmt} {f : Addr} {fd : FuncData} (F : FunD K x q (defArgs st) (defBody st) (defScope st) [] [] f fd) : Fun K x q st f fd := by
  obtain ⟨oc, od, dV, kV, doc, pm, an, cdv, ct, osl, e, lk, cd, dv, _⟩ := F.ex
  rcases dv with ⟨_, rfl⟩ | ⟨z, _⟩
  · exact ⟨⟨oc, od, kV, doc, pm, an, cdv, ct, osl, e, lk, cd⟩, F.kp⟩
  · exact absurd rfl z
theorem glo_by (X : K.In h) (G : h.Ns mainGlobals mg) (c : He.SaysD hfa hfn K) (i j l : Nat) {x : Str} {st : Stmt} (e1 : hfn[i]? = some (gD x st) := by rfl) (e2 : hfa[j]? = some (.glo x) := by rfl) (e3 : hfa[l]? = some (.keep x) := by rfl) : Glo K mg x st := by
  obtain ⟨fd, F⟩ := c.def_ i e1
  exact ⟨⟨_, _, He.glo_ok X G (c.fact j e2), funD_fun F⟩⟩
theorem meth_by (c : He.SaysD hfa hfn K) (i j : Nat) {cl m q : Str} {st : Stmt} (e1 : hfn[i]? = some (mD cl m q st) := by rfl) (e2 : hfa[j]? = some (.meth cl m) := by rfl) : GloM K (He.ga K cl) m q st := by
  obtain ⟨fd, F⟩ := c.def_ i e1
  exact ⟨⟨_, _, He.meth_ok (c.fact j e2), funD_fun F⟩⟩
theorem init_by (X : K.In h) (G : h.Ns mainGlobals mg) (c : He.SaysD hfa hfn K) (i j l n : Nat) {cl q : Str} {st : Stmt} (e1 : hfn[i]? = some (mD cl "__init__" q st) := by rfl) (e2 : hfa[j]? = some (.meth cl "__init__") := by rfl) (e3 : hfa[l]? = some (.glo cl) := by rfl) (e4 : hfa[n]? = some (.mkr cl) := by rfl) : GloC K mg (He.ga K cl) cl q st := by
  obtain ⟨fd, F⟩ := c.def_ i e1
  exact ⟨⟨_, _, He.glo_ok X G (c.fact l e3), He.mkr_ok (c.fact n e4), funD_fun F⟩⟩
theorem methD_by (c : He.SaysD hfa hfn K) (i j : Nat) {cl m q : Str} {st : Stmt} {d : List He.Dv} (e1 : hfn[i]? = some (mDd cl m q st d) := by rfl) (e2 : hfa[j]? = some (.meth cl m) := by rfl) : GloMD K (He.ga K cl) m q st (d.map (He.Dv.v K)) := by
  obtain ⟨fd, F⟩ := c.def_ i e1
  exact ⟨⟨_, _, He.meth_ok (c.fact j e2), F⟩⟩
theorem initD_by (X : K.In h) (G : h.Ns mainGlobals mg) (c : He.SaysD hfa hfn K) (i j l n : Nat) {cl q : Str} {st : Stmt} {d : List He.Dv} (e1 : hfn[i]? = some (mDd cl "__init__" q st d) := by rfl) (e2 : hfa[j]? = some (.meth cl "__init__") := by rfl) (e3 : hfa[l]? = some (.glo cl) := by rfl) (e4 : hfa[n]? = some (.mkr cl) := by rfl) : GloCD K mg (He.ga K cl) cl q st (d.map (He.Dv.v K)) := by
  obtain ⟨fd, F⟩ := c.def_ i e1
  exact ⟨⟨_, _, He.glo_ok X G (c.fact l e3), He.mkr_ok (c.fact n e4), F⟩⟩
theorem err_by (X : K.In h) (G : h.Ns mainGlobals mg) (c : He.SaysD hfa hfn K) (j l : Nat) {x : Str} (e1 : hfa[j]? = some (.glo x) := by rfl) (e2 : hfa[l]? = some (.exc x) := by rfl) : ErrT K mg x (He.ga K x) := by
  have q := He.exc_ok (c.fact l e2)
  exact ⟨He.glo_ok X G (c.fact j e1), q.1, q.2.1, q.2.2.1, q.2.2.2⟩
end

theorem all_calls {P : Program} {w : World} {K : PySem.W.Frag} {h : Heap} {mg : Str → Option Value} (X : K.In h) (G : h.Ns mainGlobals mg) (c : He.SaysD hfa hfn K) (base : Heap) : Cal P w K mg base "law" 9 ["_law_script"] (spLaw K) := by
  have TB0 : Bare mg := ⟨(He.free_ok X G (c.fact 71 (f := .free "len") rfl)), (He.free_ok X G (c.fact 72 (f := .free "range") rfl))⟩
  have TN : Names mg := ⟨(He.free_ok X G (c.fact 71 (f := .free "len") rfl)), (He.free_ok X G (c.fact 72 (f := .free "range") rfl)), (He.free_ok X G (c.fact 73 (f := .free "type") rfl)), (He.free_ok X G (c.fact 74 (f := .free "list") rfl)), (He.free_ok X G (c.fact 75 (f := .free "tuple") rfl)), (He.free_ok X G (c.fact 76 (f := .free "int") rfl)), (He.free_ok X G (c.fact 77 (f := .free "all") rfl)), (He.free_ok X G (c.fact 78 (f := .free "any") rfl)), (He.free_ok X G (c.fact 79 (f := .free "sum") rfl)), (He.free_ok X G (c.fact 80 (f := .free "max") rfl)), (He.free_ok X G (c.fact 81 (f := .free "zip") rfl)), (He.free_ok X G (c.fact 82 (f := .free "enumerate") rfl)), (He.free_ok X G (c.fact 83 (f := .free "divmod") rfl)), (He.int_ok X G (c.fact 87 (f := .int "MOST_PLACES" 8) rfl)), (He.int_ok X G (c.fact 88 (f := .int "MOST_WAYS" 3) rfl))⟩
  have TNY : NamesY mg := ⟨TN, (He.int_ok X G (c.fact 89 (f := .int "MOST_WALKERS" 1000) rfl))⟩
  have TL : NamesL mg := ⟨TN, (He.free_ok X G (c.fact 84 (f := .free "bool") rfl)), (He.free_ok X G (c.fact 85 (f := .free "isinstance") rfl))⟩
  have TS : NamesS mg := ⟨TL, (He.free_ok X G (c.fact 86 (f := .free "set") rfl))⟩
  have TC : Cls K (He.ga K "Web") := (He.cls_ok (c.fact 52 (f := .cls "Web") rfl))
  have TW_ : WebT K mg (He.ga K "Web") := ⟨TC, (He.noat_ok (c.fact 54 (f := .noat "Web" "_ways") rfl))⟩
  have TY : YardT K (He.ga K "Yard") := ⟨(He.cls_ok (c.fact 53 (f := .cls "Yard") rfl)), (He.noat_ok (c.fact 55 (f := .noat "Yard" "_web") rfl)), (He.noat_ok (c.fact 56 (f := .noat "Yard" "_ways") rfl)), (He.noat_ok (c.fact 57 (f := .noat "Yard" "_hands") rfl)), (He.noat_ok (c.fact 58 (f := .noat "Yard" "_walkers") rfl)), (He.noat_ok (c.fact 59 (f := .noat "Yard" "_left") rfl)), (He.noat_ok (c.fact 60 (f := .noat "Yard" "_runs") rfl))⟩
  have RH : ErrT K mg "BadHands" (He.ga K "BadHands") := (err_by X G c 61 62)
  have RP : ErrT K mg "BadPlace" (He.ga K "BadPlace") := (err_by X G c 63 64)
  have RC : ErrT K mg "BadCount" (He.ga K "BadCount") := (err_by X G c 65 66)
  have RN : ErrT K mg "NoStep" (He.ga K "NoStep") := (err_by X G c 67 68)
  have RE : ErrT K mg "NotEven" (He.ga K "NotEven") := (err_by X G c 69 70)
  have c1 : Cal P w K mg base _ _ _ _ := ok_mixed TB0 (glo_by X G c 0 0 1)
  have c3 : Cal P w K mg base _ _ _ _ := ok_num TN (glo_by X G c 1 2 3)
  have c4 := ok_is_rowD TN (glo_by X G c 2 4 5) c3
  have c5 := ok_is_webD TN (glo_by X G c 3 6 7) c4
  have c6 := ok_nums TN (glo_by X G c 4 8 9) c3
  have m1 : CalM P w K mg base _ _ _ _ _ := ok_many TN TW_ (meth_by c 16 32)
  have m2 := ok_checkX TN TC RP (meth_by c 17 33) c3 m1
  have m3x := ok_is_restX TN TW_ TC (meth_by c 18 34) m2
  have m5 : CalM P w K mg base _ _ _ _ _ := ok_rowsM TN TW_ (meth_by c 19 35)
  have i1 := ok_init TN TW_ (init_by X G c 29 45 46 47) c5
  have c7 := ok_handsX TN TC RH (glo_by X G c 5 10 11) c6 (m5.mono (by decide))
  have bI0 : BodyX P w K mg base ["self", "web", "hands"] "Yard.__init__" s_Yard_init 3 (spYInit0 (He.ga K "Yard") (He.ga K "Web") (He.ga K "BadHands")) := body_init TNY TY TC c7 (m5.mono (by decide)) (m1.mono (by decide))
  have gI : GloCD K mg (He.ga K "Yard") "Yard" "Yard.__init__" s_Yard_init [.non] := (initD_by X G c 31 49 50 51)
  have bI : BodyX P w K mg base ["self", "web", "hands"] "Yard.__init__" s_Yard_init 3 (spYInit (He.ga K "Yard") (He.ga K "Web") (He.ga K "BadHands")) := fun f cdv A outer s H vs Q E hr h => bI0 f cdv A outer s H vs Q E hr (init_imp h)
  have i2 := (gI.calD sc_Yard_init 3 1 (by simp) rfl (fun _ _ _ _ _ _ _ us its hl hi => match us, hl, its, hi with | [_, _, _], _, [_], _ => ⟨_, rfl, rfl⟩) (fun vs H Q E h => by obtain ⟨_, _, _, _, _, _, _, _, _, rfl, _⟩ := h; rfl) bI).full
  have y1 : CalM P w K mg base _ _ _ _ _ := ok_turn (CW := He.ga K "Web") TN TY (meth_by c 20 36)
  have y2 : CalM P w K mg base _ _ _ _ _ := ok_pointed (CW := He.ga K "Web") TN TY (meth_by c 21 37)
  have y3 := ok_leave TN TY TY.cl (meth_by c 22 38) y1 y2
  have y4 := ok_stepX TNY TY TY.cl TC RN (meth_by c 23 39) m3x (y2.mono (by decide)) (y3.mono (by decide))
  have y5 : CalM P w K mg base _ _ _ _ _ := ok_hands (CW := He.ga K "Web") TNY TY (meth_by c 24 40)
  have bP : BodyX P w K mg base ["self", "place", "many"] "Yard.put" s_Yard_put 2 (spPut (He.ga K "Yard") (He.ga K "Web") (He.ga K "BadPlace") (He.ga K "BadCount")) := body_put TNY TY TC RC m2 (c3.mono (by decide))
  have gP : GloMD K (He.ga K "Yard") "put" "Yard.put" s_Yard_put [.int 1] := (methD_by c 30 48)
  have p3 := gP.calD sc_Yard_put 2 0 (by simp) rfl (fun _ _ _ _ _ _ _ us its hl hi => match us, hl, its, hi with | [_, _], _, [_], _ => ⟨_, rfl, rfl⟩) (fun vs H Q E h => by obtain ⟨_, _, _, _, _, _, _, _, _, _, rfl, _⟩ := h; rfl) bP
  have l2 := ok_handsL TL (glo_by X G c 6 12 13) c1
  have l3 : Cal P w K mg base _ _ _ _ := ok_stepL TL (glo_by X G c 7 14 15)
  have c8 : Cal P w K mg base _ _ _ _ := ok_reached TN (glo_by X G c 8 16 17)
  have m6 := ok_rests TN TW_ TC (meth_by c 25 41) m1
  have e1 := ok_even TL (glo_by X G c 9 18 19) c1
  have c9 : Cal P w K mg base _ _ _ _ := ok_ways_in TN (glo_by X G c 10 20 21)
  have m7 := ok_balanced TN TW_ TC (meth_by c 26 42) m1 c9
  have m8 := ok_joined TN TW_ TC (meth_by c 27 43) m1 c8
  have m9 := ok_is_even TN TC (meth_by c 28 44) m6 m7 m8
  have r1 := ok_roundX TNY RE TC TY.cl (glo_by X G c 11 22 23) (m9.mono (by decide)) (c7.mono (by decide)) (i2.toC.mono (by decide)) (p3.mono (by decide)) (y4.toM.mono (by decide)) (y5.mono (by decide))
  have w1 := ok_walked TL (glo_by X G c 12 24 25) l3
  have w2 := ok_due TL (glo_by X G c 13 26 27) w1
  have w3 := ok_gone_on TL TY.cl (glo_by X G c 14 28 29) (i2.toC.mono (by decide)) (p3.mono (by decide)) (y4.toM.mono (by decide)) (y5.mono (by decide))
  exact ok_law TS TC TY.cl (glo_by X G c 15 30 31) (c1.mono (by decide)) (e1.mono (by decide)) (l2.mono (by decide)) (w2.mono (by decide)) (w1.mono (by decide)) (w3.mono (by decide)) (r1.toC.mono (by decide)) (i1.mono (by decide))
abbrev theRow : PySem.W.OpenRow := PySem.W.OpenLaw.row PySem.Challenge.rw_rotorwalk_k08_whole_rounds_of_even_webs
abbrev theHook : PySem.W.Hook := He.hookD 5 hfa hfn
def seen (s : PySem.W.SharedT) : He.AlD := He.obsDG 5 hfa hfn (HandSHeadRun.getT s)
theorem seen_eq (s : PySem.W.SharedT) : seen s = theHook.obs s.abs := He.obsDG_eq (HandSHeadRun.getT_eq s)
def others : List Str := [("_wall" : Str), ("WalkError" : Str), ("BadWeb" : Str), ("BadHands" : Str), ("BadPlace" : Str), ("BadCount" : Str), ("NoStep" : Str), ("NotEven" : Str), ("is_number" : Str), ("are_numbers" : Str), ("check_hands" : Str), ("MOST_WALKERS" : Str), ("Yard" : Str), ("round_of" : Str), ("MOST_PLACES" : Str), ("MOST_WAYS" : Str), ("is_web" : Str), ("_is_row" : Str), ("_reached" : Str), ("_ways_in" : Str), ("Web" : Str), ("_law_mixed" : Str), ("_law_numbers" : Str), ("_law_rows" : Str), ("_law_hands" : Str), ("_law_step" : Str), ("_law_able" : Str), ("_law_settled" : Str), ("_law_walkers" : Str), ("_law_even" : Str), ("_law_walked" : Str), ("_law_due" : Str), ("_law_gone_on" : Str)]
theorem run (w : World) : HandSHeadRun.RunEq theRow (PySem.W.view theRow.prog [39]) theHook seen 8000 others w := by
  intro os
  kernel_rfl
theorem facts {P : Program} {w : World} {K : PySem.W.Frag} {h : Heap} {mg : Str → Option Value} {f : Addr} (X : K.In h) (G : h.Ns mainGlobals mg) (hfa_ : mg ("law" : Str) = some (.ref f)) (c : He.SaysD hfa hfn K) :
    ∃ fd : FuncData, (∀ (s : Shared) (v : Value), BindsTo s fd ⟨[v], []⟩ [("_law_script", v)]) ∧ ∀ base : Heap, K.In base → base.Ns mainGlobals mg → FnOk P w K mg base CX0 9 f fd ["_law_script"] (spLaw K) := by
  have GL : Glo K mg "law" s_law := (glo_by X G c 15 30 31)
  obtain ⟨f0, fd, h1, F⟩ := GL.ex
  have e := hfa_.symm.trans h1
  cases e
  obtain ⟨oc, od, kV, doc, pm, an, cdv, ct, osl, efd, lk, _⟩ := id F.ex
  refine ⟨fd, fun s v => ?_, fun base _ _ => ?_⟩
  · subst efd
    exact .of_eq rfl
  · obtain ⟨f', fd', q1, q2, q3, q4, oc', od', osl', lk'⟩ := (all_calls (P := P) (w := w) X G c base).ex
    have e1 := hfa_.symm.trans q1
    cases e1
    rw [lk] at lk'
    cases lk'
    exact q4
end Rw
open PySem PySem.W PySem.Calls PyProof.Rows
theorem PySem.Challenge.cw_rotorwalk_k08_whole_rounds_of_even_webs_holds : PySem.Challenge.rw_rotorwalk_k08_whole_rounds_of_even_webs.Holds := by
  w_on; o_law
  refine HandSHeadRun.head_any (r := OpenLaw.row PySem.Challenge.rw_rotorwalk_k08_whole_rounds_of_even_webs) (q := view (OpenLaw.row PySem.Challenge.rw_rotorwalk_k08_whole_rounds_of_even_webs).prog [39]) (H := Rw.theHook) (ob := Rw.seen) (M := 8000) (loose := Rw.others) (d := HandSHeadRun.topDef (OpenLaw.row PySem.Challenge.rw_rotorwalk_k08_whole_rounds_of_even_webs).prog 39) (kwd := []) Rw.seen_eq
    (by kernel_rfl) (fun s => by kernel_rfl) Rw.run (by kernel_rfl) (by kernel_rfl) (by kernel_rfl) (by rfl) (by first | assumption | decide +kernel) (by decide +kernel) ⟨rfl, rfl, rfl, rfl, rfl, by decide +kernel⟩ ?hw ?hc
  case hw => w_witness2
  case hc =>
    refine L2.walk_ofE (l := PySem.Challenge.rw_rotorwalk_k08_whole_rounds_of_even_webs) (n := 63) (k := 9) (x := "_law_script") (CX := L2.CX0) rfl (by decide) (by kernel_rfl) ⟨rfl, by decide, by decide⟩ ?F (fun _ _ _ _ z => z)
    intro w mg fa h Y G hmg0
    obtain ⟨K, KX, c⟩ := Y
    have hmg : mg ("law" : PySem.Str) = some (.ref fa) := by
      have e : (HandSHeadRun.topDef (OpenLaw.row PySem.Challenge.rw_rotorwalk_k08_whole_rounds_of_even_webs).prog 39).name = ("law" : PySem.Str) := by kernel_rfl
      rw [← e]
      exact hmg0
    obtain ⟨fd, hb, hF⟩ := Rw.facts (P := (PySem.Challenge.rw_rotorwalk_k08_whole_rounds_of_even_webs).prog) (w := w) KX G hmg c
    exact ⟨K, fd, Rw.spLaw K, KX, hb, fun H a ns hl _ hS => ⟨a, ns, rfl, hS, hl, fun _ => rfl⟩, hF⟩
