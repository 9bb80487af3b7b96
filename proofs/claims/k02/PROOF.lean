import PyProof.Rows.All
import Wide.All
import OpenK.AllK
import Wide.FinOn
import HandS.ForMost
import HandS.Walk
import HandS.IsInst
import HandS.More
import HandS.SetFor
import HandS.Flow
import HandS.Conv
import HandS.Strs
import HandS.TupLe
import HandS.Exc
import HandS.ExcIs
import HandS.ExcField
import HandS.ExcValue
import HandS.ExcOwn
import HandS.WordsExc
import HandS.FStr
import KE.KExcIs
import PyProof.StrLaws
import PyProof.Rows.RegStrFacts
import HandS.Defaults
import HandS.HeadHook2
import PySem.Challenge.RW_rotorwalk_k02_webs
import KE.KStateDown
import HandS.Head0
import HandS.Head1
import HandS.Head2
import HandS.HeadEnd
import HandS.HeadHook1
set_option Elab.async false
set_option linter.all false
set_option maxRecDepth 100000
/-! Rw: the heap in two parts: what stands still (B) and the cells that may change (M); calls by their promises. -/
namespace Rw
open PySem PySem.Spec PyProof.Rows L2

/-! ### the heap in two parts -/
structure Hs (B : Hp) (M : List (Addr × HO)) (H : Hp) : Prop where
  ex : Same B H
  cel : ∀ c ∈ M, B c.1 = none ∧ H c.1 = some c.2
  nd : (M.map (·.1)).Nodup

section
variable {B B' : Hp} {M : List (Addr × HO)} {H H' : Hp} {p : Addr} {o o' : HO} {i : Nat}
theorem Hs.nil (H : Hp) : Hs H [] H := ⟨Same.refl H, fun c h => by simp at h, List.nodup_nil⟩
theorem Hs.get (S : Hs B M H) (i : Nat) (h : M[i]? = some (p, o) := by rfl) : H p = some o := (S.cel _ (List.mem_of_getElem? h)).2
theorem Hs.out (S : Hs B M H) (i : Nat) (h : M[i]? = some (p, o) := by rfl) : B p = none := (S.cel _ (List.mem_of_getElem? h)).1
theorem Hs.free (S : Hs B M H) (h : H p = none) : B p = none := S.ex.free h
theorem Hs.new (S : Hs B M H) (hp : H p = none) (o : HO) : Hs B ((p, o) :: M) (upd H p o) := by
  refine ⟨fun b u e => ?_, fun c hc => ?_, ?_⟩
  · rw [upd_ne (ne_of_none (S.ex b u e) hp)]
    exact S.ex b u e
  · rcases List.mem_cons.mp hc with e | hm
    · subst e
      exact ⟨S.free hp, upd_same⟩
    · obtain ⟨h1, h2⟩ := S.cel c hm
      exact ⟨h1, by rw [upd_ne (ne_of_none h2 hp)]; exact h2⟩
  · refine List.nodup_cons.mpr ⟨fun hm => ?_, S.nd⟩
    obtain ⟨c, hc, e⟩ := List.mem_map.mp hm
    have e : c.1 = p := e
    have h2 := (S.cel c hc).2
    rw [e, hp] at h2
    cases h2
theorem mem_set_nd {M : List (Addr × HO)} {p : Addr} {o o' : HO} {i : Nat} (nd : (M.map (·.1)).Nodup) (h : M[i]? = some (p, o)) : ∀ c ∈ M.set i (p, o'), c = (p, o') ∨ (c ∈ M ∧ c.1 ≠ p) := by
  intro c hc
  obtain ⟨j, hj, e⟩ := List.mem_iff_getElem.mp hc
  by_cases hij : i = j
  · subst hij
    rw [List.getElem_set_self] at e
    exact .inl e.symm
  · rw [List.getElem_set_ne hij] at e
    have hj' : j < M.length := by rw [List.length_set] at hj; exact hj
    refine .inr ⟨e ▸ List.getElem_mem hj', fun q => hij ?_⟩
    obtain ⟨hi, ei⟩ := List.getElem?_eq_some_iff.mp h
    have h1 : (M.map (·.1))[i]'(by rw [List.length_map]; exact hi) = p := by rw [List.getElem_map, ei]
    have h2 : (M.map (·.1))[j]'(by rw [List.length_map]; exact hj') = p := by rw [List.getElem_map, e]; exact q
    exact (List.getElem_inj nd).mp (h1.trans h2.symm)
theorem Hs.put (S : Hs B M H) (i : Nat) (o' : HO) (h : M[i]? = some (p, o) := by rfl) : Hs B (M.set i (p, o')) (upd H p o') := by
  have hB := S.out i h
  refine ⟨fun b u e => ?_, fun c hc => ?_, ?_⟩
  · rw [upd_ne (ne_of_none e hB)]
    exact S.ex b u e
  · rcases mem_set_nd S.nd h c hc with e | ⟨hm, hn⟩
    · subst e
      exact ⟨hB, upd_same⟩
    · obtain ⟨h1, h2⟩ := S.cel c hm
      exact ⟨h1, by rw [upd_ne hn]; exact h2⟩
  · have e : (M.set i (p, o')).map (·.1) = M.map (·.1) := by
      rw [List.map_set]
      refine List.ext_getElem? fun j => ?_
      by_cases hij : i = j
      · subst hij
        obtain ⟨hi, ei⟩ := List.getElem?_eq_some_iff.mp h
        rw [List.getElem?_set_self (by rw [List.length_map]; exact hi), List.getElem?_map, h]
        rfl
      · rw [List.getElem?_set_ne hij]
    rw [e]
    exact S.nd
theorem mem_erase_nd {M : List (Addr × HO)} {p : Addr} {o : HO} {i : Nat} (nd : (M.map (·.1)).Nodup) (h : M[i]? = some (p, o)) : ∀ c ∈ M.eraseIdx i, c ∈ M ∧ c.1 ≠ p := by
  intro c hc
  obtain ⟨j, hj, hij⟩ := List.mem_eraseIdx_iff_getElem?.mp hc
  have hm := List.mem_of_getElem? hij
  refine ⟨hm, fun q => hj ?_⟩
  obtain ⟨hi, ei⟩ := List.getElem?_eq_some_iff.mp h
  obtain ⟨hj', ej⟩ := List.getElem?_eq_some_iff.mp hij
  have h1 : (M.map (·.1))[i]'(by rw [List.length_map]; exact hi) = p := by rw [List.getElem_map, ei]
  have h2 : (M.map (·.1))[j]'(by rw [List.length_map]; exact hj') = p := by rw [List.getElem_map, ej]; exact q
  exact (List.getElem_inj nd).mp (h2.trans h1.symm)
theorem nodup_erase {M : List (Addr × HO)} {i : Nat} (nd : (M.map (·.1)).Nodup) : ((M.eraseIdx i).map (·.1)).Nodup :=
  nd.sublist ((List.eraseIdx_sublist M i).map _)
theorem Hs.drop (S : Hs B M H) (i : Nat) : Hs B (M.eraseIdx i) H :=
  ⟨S.ex, fun c hc => S.cel c (List.mem_of_mem_eraseIdx hc), nodup_erase S.nd⟩
/-- a cell is shut: it stands still from now on -/
theorem Hs.frz (S : Hs B M H) (i : Nat) (h : M[i]? = some (p, o) := by rfl) : Hs (upd B p o) (M.eraseIdx i) H := by
  refine ⟨fun b u e => ?_, fun c hc => ?_, nodup_erase S.nd⟩
  · by_cases hb : b = p
    · subst hb
      rw [upd_same] at e
      cases e
      exact S.get i h
    · rw [upd_ne hb] at e
      exact S.ex b u e
  · obtain ⟨hm, hn⟩ := mem_erase_nd S.nd h c hc
    exact ⟨by rw [upd_ne hn]; exact (S.cel c hm).1, (S.cel c hm).2⟩
theorem Same.upd_none (h : B p = none) : Same B (upd B p o) := fun b u e => by
  rw [upd_ne (ne_of_none e h)]
  exact e
/-- the same, with a new name for what stands -/
theorem Hs.shut (S : Hs B M H) (i : Nat) (h : M[i]? = some (p, o) := by rfl) : ∃ B', Same B B' ∧ B' p = some o ∧ Hs B' (M.eraseIdx i) H := ⟨upd B p o, Same.upd_none (S.out i h), upd_same, S.frz i h⟩
/-- a new thing that stands still at once -/
theorem Hs.still (S : Hs B M H) (hp : H p = none) (o : HO) : Hs (upd B p o) M (upd H p o) := (S.new hp o).frz 0
/-- the cells in another order, or fewer -/
theorem Hs.sub {M' : List (Addr × HO)} (S : Hs B M H) (h : ∀ c ∈ M', c ∈ M) (nd : (M'.map (·.1)).Nodup) : Hs B M' H := ⟨S.ex, fun c hc => S.cel c (h c hc), nd⟩
/-- the j-th cell comes first -/
theorem Hs.first (S : Hs B M H) (i : Nat) {c : Addr × HO} (h : M[i]? = some c := by rfl) : Hs B (c :: M.eraseIdx i) H := by
  obtain ⟨p, o⟩ := c
  refine S.sub (fun c hc => ?_) ?_
  · rcases List.mem_cons.mp hc with e | hm
    · subst e
      exact List.mem_of_getElem? h
    · exact List.mem_of_mem_eraseIdx hm
  · refine List.nodup_cons.mpr ⟨fun hm => ?_, nodup_erase S.nd⟩
    obtain ⟨c, hc, e⟩ := List.mem_map.mp hm
    exact (mem_erase_nd S.nd h c hc).2 e
/-- the still part grows by what the cells do not hold -/
theorem Hs.less {B0 : Hp} (S : Hs B M H) (e : Same B0 B) : Hs B0 M H := ⟨e.trans S.ex, fun c hc => ⟨e.free (S.cel c hc).1, (S.cel c hc).2⟩, S.nd⟩
end

/-! ### data that stands -/
section
variable {H H' : Hp}
abbrev LV (H : Hp) (p : Addr) (xs : List V) : Prop := H p = some (.lst xs)
abbrev LI (H : Hp) (p : Addr) (ns : List Int) : Prop := H p = some (.lst (ns.map V.int))
def LR (H : Hp) (as : List Addr) (rows : List (List Int)) : Prop := Paired (fun a r => LI H a r) as rows
/-- a list of lists of ints -/
def LL (H : Hp) (p : Addr) (rows : List (List Int)) : Prop := ∃ as : List Addr, H p = some (.lst (as.map V.ref)) ∧ LR H as rows
theorem LR.mono (e : Same H H') : ∀ {as : List Addr} {rows : List (List Int)}, LR H as rows → LR H' as rows
  | _, _, .nil => .nil
  | _, _, .cons r t => .cons (e _ _ r) (LR.mono e t)
theorem LL.mono (e : Same H H') {p : Addr} {rows : List (List Int)} (h : LL H p rows) : LL H' p rows := by
  obtain ⟨as, h1, h2⟩ := h
  exact ⟨as, e _ _ h1, h2.mono e⟩
theorem LR.length {as : List Addr} {rows : List (List Int)} (h : LR H as rows) : as.length = rows.length := Paired.length h
theorem LR.snoc : ∀ {as : List Addr} {rows : List (List Int)} {a : Addr} {r : List Int}, LR H as rows → LI H a r → LR H (as ++ [a]) (rows ++ [r])
  | _, _, _, _, .nil, h => .cons h .nil
  | _, _, _, _, .cons r t, h => .cons r (LR.snoc t h)
theorem LR.get : ∀ {as : List Addr} {rows : List (List Int)} {i : Nat} {r : List Int}, LR H as rows → rows[i]? = some r → ∃ a, as[i]? = some a ∧ LI H a r
  | _, _, _, _, .nil, e => by simp at e
  | _, _, 0, r, .cons h t, e => by simp at e; subst e; exact ⟨_, rfl, h⟩
  | _, _, i + 1, r, .cons h t, e => by
    obtain ⟨a, h1, h2⟩ := LR.get (i := i) t (by simpa using e)
    exact ⟨a, by simpa using h1, h2⟩
theorem LR.set : ∀ {as : List Addr} {rows : List (List Int)} {i : Nat} {a : Addr} {r : List Int}, LR H as rows → LI H a r → LR H (as.set i a) (rows.set i r)
  | _, _, _, _, _, .nil, _ => .nil
  | _, _, 0, _, _, .cons _ t, h => .cons h t
  | _, _, i + 1, _, _, .cons q t, h => .cons q (LR.set t h)
variable {K : PySem.W.Frag}
theorem sqL_of {p : Addr} {xs : List V} (h : H p = some (.lst xs)) : SqL K H p xs := .inl (.inl h)
theorem sqT_of {p : Addr} {xs : List V} (h : H p = some (.tup xs)) : SqT K H p xs := .inl (.inl h)
end

/-! ### calls by their promises -/
structure Cal (P : Program) (w : World) (K : PySem.W.Frag) (mg : Str → Option Value) (base : Heap) (x : Str) (k : Nat) (ps : List Str) (sp : Sp) : Prop where
  ex : ∃ (f : Addr) (fd : FuncData), mg x = some (.ref f) ∧ PySem.W.keepIn K (.ref f) = true ∧ Binds K fd ps [] ∧ FnOk P w K mg base CX0 k f fd ps sp ∧ ∃ (oc : Value) (od : Option Addr) (osl : Array (Option Value)), K.lookup f = some ⟨oc, od, .func fd, osl⟩
/-- where a def of the top stands -/
structure Glo (K : PySem.W.Frag) (mg : Str → Option Value) (x : Str) (st : Stmt) : Prop where
  ex : ∃ (f : Addr) (fd : FuncData), mg x = some (.ref f) ∧ Fun K x x st f fd
section
variable {P : Program} {w : World} {K : PySem.W.Frag} {mg : Str → Option Value} {base : Heap} {x : Str} {st : Stmt} {k j : Nat} {ps N : List Str} {sp : Sp}
theorem Cal.mono (C : Cal P w K mg base x j ps sp) (h : j ≤ k) : Cal P w K mg base x k ps sp := by
  obtain ⟨f, fd, h1, h2, h3, h4, h5⟩ := C.ex
  exact ⟨f, fd, h1, h2, h3, h4.mono h, h5⟩
/-- a def of the top keeps its promise -/
theorem Glo.cal (G : Glo K mg x st) (S : FnScope N ps (defScope st)) (bn : ∀ (kV doc pm : Value) (an : Option Addr) (cdv ct : Value) (us : List Value), us.length = ps.length → bindArgs (PySem.W.fnOf x x (defArgs st) (defBody st) (defScope st) .none kV doc pm an cdv ct) ⟨us, []⟩ = pure (ps.zip us))
    (len : ∀ (vs : List V) (H : Hp) (Q : VK) (E : XK), sp vs H Q E → vs.length = ps.length)
    (hbody : ∀ (f : Addr) (cdv : Value) (A : Around) (outer : List Env) (s : Shared) (H : Hp) (vs : List V) (Q : VK) (E : XK), Room k (A.deeper (envOfC x (defScope st) s.heap.objs.size f cdv)) → sp vs H Q E →
      ∃ t, PSs (cxOf CX0 P w K mg base N x (defScope st) f cdv A outer s H E).nox (defBody st) t ∧ t { nx := fun _ H' => Q .non H', rt := Q } (start N vs) H) : Cal P w K mg base x (k + 1) ps sp := by
  obtain ⟨f, fd, h1, F⟩ := G.ex
  refine ⟨f, fd, h1, F.kp, F.binds bn, F.ok S len (fun cdv A outer s H vs Q E hr h => hbody f cdv A outer s H vs Q E hr h), ?_⟩
  obtain ⟨oc, od, kV, doc, pm, an, cdv, ct, osl, _, lk, _⟩ := F.ex
  exact ⟨oc, od, osl, lk⟩
end
section
variable {X : Cx} {x : Str} {k : Nat} {ps : List Str} {sp : Sp} {e : Expr} {es : List Expr} {t : TA} {p pos : Pos}
theorem pe_cal (C : Cal X.prog X.w X.K X.mg X.base x k ps sp) (hr : Room k X.A) (hg : Gl X x) (ha : PA X (e :: es) t) (hdb : (x == ("__debug__" : Str)) = false := by decide) (he : starEach (e :: es) X.env = (false, eval e X.env) :: starEach es X.env := by rfl) (hpl : (backTo pos (starEach es X.env)).any (·.1) = false := by rfl) : PE X (.Call (.Name x p) (e :: es) [] pos) (tCall sp [] E0 t) := by
  obtain ⟨f, fd, h1, h2, h3, h4, _⟩ := C.ex
  exact pe_call h4 hr hg h1 h2 h3 .nil pass0 ha hdb he hpl
end
end Rw

namespace Rw
open PySem PySem.Spec PyProof.Rows L2
/-! ### steps of a reading -/
section
variable {K : PySem.W.Frag} {σ : L2.St} {H : Hp} {Q : VK} {v : V} {i : Nat} {ta tb tc te : TE} {r : R2} {D : Ends} {B : Hp} {M : List (Addr × HO)} {p : Addr} {xs : List V}
theorem w_var (h : σ[i]? = some (some v)) (k : Q v H) : tVar i σ H Q := ⟨v, h, k⟩
theorem w_c (k : Q v H) : tC v σ H Q := k
theorem w_op (k : ta σ H fun x H1 => tb σ H1 fun y H2 => r x y H2 Q) : tOp r ta tb σ H Q := k
theorem w_un {r : V → Hp → VK → Prop} (k : ta σ H fun x H1 => r x H1 Q) : tUn r ta σ H Q := k
theorem w_rU {g : Int → V} {i : Int} (k : Q (g i) H) : rU g (.int i) H Q := ⟨i, rfl, k⟩
theorem w_rI0 {g : Int → Int → V} {i j : Int} (k : Q (g i j) H) : rI0 g (.int i) (.int j) H Q := ⟨i, j, rfl, rfl, k⟩
theorem w_mod {i j : Int} (h : 0 < j) (k : Q (.int (i % j)) H) : rI (fun _ j => 0 < j) (fun i j => .int (i % j)) (.int i) (.int j) H Q := ⟨i, j, rfl, rfl, h, k⟩
theorem w_mul {i j : Int} (h : CMul i j) (k : Q (.int (i * j)) H) : rI CMul (fun i j => .int (i * j)) (.int i) (.int j) H Q := ⟨i, j, rfl, rfl, h, k⟩
theorem w_div {i j : Int} (h : CDiv i j) (k : Q (.int (i / j)) H) : rI CDiv (fun i j => .int (i / j)) (.int i) (.int j) H Q := ⟨i, j, rfl, rfl, h, k⟩
theorem w_seq {t u : TS} (k : t { D with nx := u D } σ H) : tSeq t u D σ H := k
theorem w_asg {g : TG} (k : te σ H fun x H1 => g x σ H1 D.nx) : tAsg te g D σ H := k
theorem w_name {v : V} {R : L2.St → Hp → Prop} (k : R (σ.set i (some v)) H) : gName i v σ H R := k
theorem w_drop (k : te σ H fun _ H1 => D.nx σ H1) : tDrop te D σ H := k
theorem w_ret (k : te σ H D.rt) : tRet te D σ H := k
theorem w_next (k : D.nx σ H) : tNext D σ H := k
theorem w_ifS {c : TT} {t u : TS} (k : c σ H fun b H1 => if b = true then t D σ H1 else u D σ H1) : tIfS c t u D σ H := k
theorem w_if {c : TT} (k : c σ H fun b H1 => if b = true then ta σ H1 Q else tb σ H1 Q) : tIf c ta tb σ H Q := k
def BlX (x : V) (H : Hp) (R : Bool → Hp → Prop) : Prop := ∃ k, x = .bl k ∧ R k H
theorem w_test {R : Bool → Hp → Prop} (k : te σ H fun x H' => BlX x H' R) : tTest te σ H R := k
theorem w_B {R : Bool → Hp → Prop} (k : te σ H fun x H' => BlX x H' R) : tB te σ H R := k
theorem w_bl {R : Bool → Hp → Prop} {b : Bool} (k : R b H) : BlX (.bl b) H R := ⟨b, rfl, k⟩
theorem w_not {t : TT} {R : Bool → Hp → Prop} (k : t σ H fun c H1 => R (!c) H1) : tNot t σ H R := k
theorem w_and {t u : TT} {R : Bool → Hp → Prop} (k : t σ H fun c H1 => if c = true then u σ H1 R else R false H1) : tAnd t u σ H R := k
theorem w_or {t u : TT} {R : Bool → Hp → Prop} (k : t σ H fun c H1 => if c = true then R true H1 else u σ H1 R) : tOr t u σ H R := k
theorem w_nil {R : List V → Hp → Prop} (k : R [] H) : tNil σ H R := k
theorem w_cons {tr : TA} {R : List V → Hp → Prop} (k : ta σ H fun x H1 => tr σ H1 fun xs H2 => R (x :: xs) H2) : tCons ta tr σ H R := k
theorem w_call {sp : Sp} {dvs : List V} {E : XK} {t : TA} (k : t σ H fun vs H1 => sp (vs ++ dvs) H1 Q E) : tCall sp dvs E t σ H Q := k
theorem w_cb {r : List V → Hp → VK → Prop} {t : TA} (k : t σ H fun vs H1 => r vs H1 Q) : tCB r t σ H Q := k
theorem w_bm0 {T : String} {r : V → List V → Hp → VK → Prop} (k : ta σ H fun x H1 => tyV K T x H1 ∧ r x [] H1 Q) : tBM0 K T r ta σ H Q := k
theorem w_bm {T : String} {r : V → List V → Hp → VK → Prop} {t : TA} (k : ta σ H fun x H1 => tyV K T x H1 ∧ t σ H1 fun xs H2 => r x xs H2 Q) : tBM K T r ta t σ H Q := k
/-- a new list, a new tuple -/
def newL (xs : List V) (H : Hp) (Q : VK) : Prop := xs.length ≤ sizeLine ∧ ∀ p, H p = none → Q (.ref p) (upd H p (.lst xs))
def newT (xs : List V) (H : Hp) (Q : VK) : Prop := xs.length ≤ sizeLine ∧ ∀ p, H p = none → Q (.ref p) (upd H p (.tup xs))
theorem w_tlst {t : TA} (k : t σ H fun xs H1 => newL xs H1 Q) : tLst t σ H Q := k
theorem w_ttup {t : TA} (k : t σ H fun xs H1 => newT xs H1 Q) : tTup t σ H Q := k
theorem w_sub {to ti : TE} {t : TSet} {v : V} {R : L2.St → Hp → Prop} (k : to σ H fun o H1 => ti σ H1 fun i H2 => t o i v H2 fun H3 => R σ H3) : gSub to ti t v σ H R := k
def ForJ (J : It) (g : TG) (tb : TS) (D : Ends) (σ : L2.St) (H : Hp) : Prop := ∃ W : Nat → Nat → L2.St → Hp → Prop, (∃ m, W 0 m σ H) ∧ ∀ i m σ H, W i m σ H →
      (J.stop i H ∧ D.nx σ H) ∨ (J.go i H ∧ ∃ N : L2.St → Hp → Prop, (∀ σ' H', N σ' H' → ∃ m', m' < m ∧ W (i + 1) m' σ' H') ∧ ∀ x H', J.yld i H x H' → g x σ H' fun σ2 H2 => tb { D with nx := N, ct := N, bk := D.nx } σ2 H2)
theorem w_for {wi : TI} {g : TG} {tb : TS} (k : wi σ H fun J H1 => ForJ J g tb D σ H1) : tFor wi g tb D σ H := k
def Rng1 (vs : List V) (H : Hp) (R : It → Hp → Prop) : Prop := ∃ j : Int, vs = [.int j] ∧ -(2 ^ 62) ≤ j ∧ j < 2 ^ 62 ∧ R (Itr 0 j.toNat) H
theorem w_rng1 {ta : TA} {R : It → Hp → Prop} (k : ta σ H fun vs H1 => Rng1 vs H1 R) : iRng1 ta σ H R := k
theorem w_rngE {j : Int} {R : It → Hp → Prop} (h0 : -(2 ^ 62) ≤ j) (h1 : j < 2 ^ 62) (k : R (Itr 0 j.toNat) H) : Rng1 [.int j] H R := ⟨j, rfl, h0, h1, k⟩
def ItL (K : PySem.W.Frag) (v : V) (H : Hp) (R : It → Hp → Prop) : Prop := ∃ a, v = .ref a ∧ (∃ xs, SqL K H a xs) ∧ R (Itl K a) H
def ItT (K : PySem.W.Frag) (v : V) (H : Hp) (R : It → Hp → Prop) : Prop := ∃ a, v = .ref a ∧ (∃ xs, SqT K H a xs) ∧ R (Itt K a) H
def ItE (K : PySem.W.Frag) (vs : List V) (H : Hp) (R : It → Hp → Prop) : Prop := ∃ a xs, vs = [.ref a] ∧ SqL K H a xs ∧ R (Ite K a) H
def ItZ (K : PySem.W.Frag) (vs : List V) (H : Hp) (R : It → Hp → Prop) : Prop := ∃ a b xs ys, vs = [.ref a, .ref b] ∧ SqL K H a xs ∧ SqL K H b ys ∧ R (Itz K a b) H
theorem w_iL {R : It → Hp → Prop} (k : ta σ H fun x H1 => ItL K x H1 R) : iList K ta σ H R := k
theorem w_iT {R : It → Hp → Prop} (k : ta σ H fun x H1 => ItT K x H1 R) : iTup K ta σ H R := k
theorem w_iE {ta : TA} {R : It → Hp → Prop} (k : ta σ H fun x H1 => ItE K x H1 R) : iEnum K ta σ H R := k
theorem w_iZ {ta : TA} {R : It → Hp → Prop} (k : ta σ H fun x H1 => ItZ K x H1 R) : iZip K ta σ H R := k
theorem w_iLE {R : It → Hp → Prop} (h : SqL K H p xs) (k : R (Itl K p) H) : ItL K (.ref p) H R := ⟨p, rfl, ⟨_, h⟩, k⟩
theorem w_iTE {R : It → Hp → Prop} (h : SqT K H p xs) (k : R (Itt K p) H) : ItT K (.ref p) H R := ⟨p, rfl, ⟨_, h⟩, k⟩
theorem w_iEE {R : It → Hp → Prop} (h : SqL K H p xs) (k : R (Ite K p) H) : ItE K [.ref p] H R := ⟨p, _, rfl, h, k⟩
theorem w_iZE {q : Addr} {ys : List V} {R : It → Hp → Prop} (h : SqL K H p xs) (h2 : SqL K H q ys) (k : R (Itz K p q) H) : ItZ K [.ref p, .ref q] H R := ⟨p, q, _, _, rfl, h, h2, k⟩
/-- a comprehension -/
def LcJ (J : It) (g : TG) (tt : TT) (te : TE) (vs : List Nat) (σ : L2.St) (H : Hp) (Q : VK) : Prop := ∀ D, H D = none → ∃ W : Nat → Nat → Hp → Prop, (∃ m, W 0 m (upd H D (.lst []))) ∧ ∀ i m H, W i m H →
  (J.stop i H ∧ Q (.ref D) H) ∨
  (J.go i H ∧ ∃ on : Hp → Prop, (∀ H', on H' → ∃ m', m' < m ∧ W (i + 1) m' H') ∧ ∀ x H', J.yld i H x H' →
    g x (wipe σ vs) H' fun s2 H2 => wipe s2 vs = wipe σ vs ∧ tt s2 H2 fun b H3 =>
      if b = true then te s2 H3 fun y H4 => ∃ made, H4 D = some (.lst made) ∧ made.length < sizeLine ∧ on (upd H4 D (.lst (made ++ [y]))) else on H3)
theorem w_lc {wi : TI} {g : TG} {tt : TT} {vs : List Nat} (k : wi σ H fun J H1 => LcJ J g tt te vs σ H1 Q) : tLc wi g tt te vs σ H Q := k
theorem w_yes {R : Bool → Hp → Prop} (k : R true H) : tYes σ H R := k
/-- a pair's parts to their names -/
theorem w_gtup {n : Nat} {t : TGs} {R : L2.St → Hp → Prop} (h : SqT K H p xs) (hn : xs.length = n) (k : t xs σ H R) : gTup K n t (.ref p) σ H R := ⟨p, xs, rfl, h, hn, k⟩
theorem w_gcons {t : TG} {u : TGs} {x : V} {R : L2.St → Hp → Prop} (k : t x σ H fun σ' H' => u xs σ' H' R) : gCons t u (x :: xs) σ H R := ⟨x, xs, rfl, k⟩
theorem w_gnil {R : L2.St → Hp → Prop} (k : R σ H) : gNil [] σ H R := ⟨rfl, k⟩
theorem w_lst (S : Hs B M H) (hl : xs.length ≤ sizeLine) (k : ∀ p H', Hs B ((p, .lst xs) :: M) H' → Q (.ref p) H') : newL xs H Q := ⟨hl, fun p hp => k p _ (S.new hp _)⟩
theorem w_tup (S : Hs B M H) (hl : xs.length ≤ sizeLine) (k : ∀ p H', Hs B ((p, .tup xs) :: M) H' → Q (.ref p) H') : newT xs H Q := ⟨hl, fun p hp => k p _ (S.new hp _)⟩
/-- an item of a list -/
theorem w_ixL {j : Int} (h : SqL K H p xs) (ha : atI xs j = some v) (k : Q v H) : rIxL K (.ref p) (.int j) H Q := ⟨p, xs, j, v, rfl, rfl, h, ha, k⟩
theorem w_ixT {j : Int} (h : SqT K H p xs) (ha : atI xs j = some v) (k : Q v H) : rIxT K (.ref p) (.int j) H Q := ⟨p, xs, j, v, rfl, rfl, h, ha, k⟩
theorem tyL (h : SqL K H p xs) : tyV K "list" (.ref p) H := .inl ⟨rfl, _, h⟩
/-- append to a cell -/
theorem w_append {y : V} (S : Hs B M H) (i : Nat) (h : M[i]? = some (p, .lst xs)) (hl : xs.length < sizeLine) (k : ∀ H', Hs B (M.set i (p, .lst (xs ++ [y]))) H' → Q .non H') : rAppend (.ref p) [y] H Q :=
  ⟨p, xs, y, rfl, rfl, S.get i h, hl, k _ (S.put i _ h)⟩
/-- an item's store -/
theorem w_setL {j : Int} {n : Nat} {R : Hp → Prop} (S : Hs B M H) (i : Nat) (h : M[i]? = some (p, .lst xs)) (hj : ixN xs.length j = some n) (k : ∀ H', Hs B (M.set i (p, .lst (xs.set n v))) H' → R H') : rSetL (.ref p) (.int j) v H R :=
  ⟨p, xs, j, n, rfl, rfl, S.get i h, hj, k _ (S.put i _ h)⟩
/-- len -/
def rLenX (K : PySem.W.Frag) : List V → Hp → VK → Prop := fun xs H Q => ∃ x n, xs = [x] ∧ LenV K x H n ∧ Q (.int (n : Nat)) H
theorem w_len {xs : List V} (h : SqL K H p xs) (k : Q (.int (xs.length : Nat)) H) : rLenX K [.ref p] H Q := ⟨_, _, rfl, .inl ⟨_, h, rfl⟩, k⟩
theorem w_lenT {xs : List V} (h : SqT K H p xs) (k : Q (.int (xs.length : Nat)) H) : rLenX K [.ref p] H Q := ⟨_, _, rfl, .inr ⟨_, h, rfl⟩, k⟩
/-- list(..), tuple(..) -/
def rListX (K : PySem.W.Frag) : List V → Hp → VK → Prop := fun xs H Q => ∃ p ys, xs = [.ref p] ∧ (SqL K H p ys ∨ SqT K H p ys) ∧ ∀ l, H l = none → Q (.ref l) (upd H l (.lst ys))
theorem w_listL (S : Hs B M H) (h : SqL K H p xs) (k : ∀ q H', Hs B ((q, .lst xs) :: M) H' → Q (.ref q) H') : rListX K [.ref p] H Q := ⟨p, xs, rfl, .inl h, fun l hl => k l _ (S.new hl _)⟩
theorem w_listT (S : Hs B M H) (h : SqT K H p xs) (k : ∀ q H', Hs B ((q, .lst xs) :: M) H' → Q (.ref q) H') : rListX K [.ref p] H Q := ⟨p, xs, rfl, .inr h, fun l hl => k l _ (S.new hl _)⟩
def rTupX (K : PySem.W.Frag) : List V → Hp → VK → Prop := fun xs H Q => ∃ p ys, xs = [.ref p] ∧ ((SqL K H p ys ∧ ∀ l, H l = none → Q (.ref l) (upd H l (.tup ys))) ∨ (SqT K H p ys ∧ Q (.ref p) H))
theorem w_tupL (S : Hs B M H) (h : SqL K H p xs) (k : ∀ q H', Hs B ((q, .tup xs) :: M) H' → Q (.ref q) H') : rTupX K [.ref p] H Q := ⟨p, xs, rfl, .inl ⟨h, fun l hl => k l _ (S.new hl _)⟩⟩
def rMax2X : List V → Hp → VK → Prop := fun xs H Q => ∃ i j, xs = [.int i, .int j] ∧ Q (.int (if j > i then j else i)) H
theorem w_max2 {i j : Int} (k : Q (.int (if j > i then j else i)) H) : rMax2X [.int i, .int j] H Q := ⟨i, j, rfl, k⟩
/-- all, any, sum of what stands in a list -/
theorem w_all {bs : List Bool} (h : SqL K H p (bs.map V.bl)) (k : Q (.bl (bs.all id)) H) : rAll K [.ref p] H Q := ⟨p, bs, rfl, h, k⟩
theorem w_sum {ns : List Int} (h : SqL K H p (ns.map V.int)) (k : Q (.int ns.sum) H) : rSum K [.ref p] H Q := ⟨p, ns, rfl, h, k⟩
/-- x in xs -/
theorem w_inL {neg : Bool} {x : V} (h : SqL K H p xs) (hx : flatV x = true) (ha : xs.all flatV = true) (k : Q (.bl (if neg then !inV x xs else inV x xs)) H) : rIn K neg x (.ref p) H Q := ⟨p, xs, rfl, .inl h, hx, ha, k⟩
theorem w_inT {neg : Bool} {x : V} (h : SqT K H p xs) (hx : flatV x = true) (ha : xs.all flatV = true) (k : Q (.bl (if neg then !inV x xs else inV x xs)) H) : rIn K neg x (.ref p) H Q := ⟨p, xs, rfl, .inr h, hx, ha, k⟩
/-- == -/
theorem w_eqS {x y : V} (h : scal x y = true) (k : Q (.bl (decide (x = y))) H) : rEq x y H Q := ⟨h, k⟩
theorem w_neS {x y : V} (h : scal x y = true) (k : Q (.bl (!decide (x = y))) H) : rNe x y H Q := ⟨h, k⟩
theorem w_eqD {x y : V} {d e : PyData} (hd : Dp K H x d) (he : Dp K H y e) (sd : SeqAt.shaped d = true) (se : SeqAt.shaped e = true) (k : Q (.bl (PyData.eqv d e)) H) : rEqD K x y H Q := ⟨d, e, hd, he, sd, se, k⟩
theorem w_neD {x y : V} {d e : PyData} (hd : Dp K H x d) (he : Dp K H y e) (sd : SeqAt.shaped d = true) (se : SeqAt.shaped e = true) (k : Q (.bl (!PyData.eqv d e)) H) : rNeD K x y H Q := ⟨d, e, hd, he, sd, se, k⟩
/-- xs + ys, xs * n, xs[a:b] -/
theorem w_cat {q : Addr} {ys : List V} (S : Hs B M H) (h : H p = some (.lst xs)) (h2 : H q = some (.lst ys)) (hl : xs.length + ys.length ≤ sizeLine) (k : ∀ z H', Hs B ((z, .lst (xs ++ ys)) :: M) H' → Q (.ref z) H') : rCat (.ref p) (.ref q) H Q :=
  ⟨p, q, xs, ys, rfl, rfl, h, h2, hl, fun z hz => k z _ (S.new hz _)⟩
theorem w_rep {n : Int} (S : Hs B M H) (h : H p = some (.lst xs)) (h0 : -(2 ^ 63) ≤ n) (h1 : n < 2 ^ 63) (hl : xs.length * n.toNat ≤ sizeLine) (k : ∀ z H', Hs B ((z, .lst (List.replicate n.toNat xs).flatten) :: M) H' → Q (.ref z) H') : rRep (.ref p) (.int n) H Q :=
  ⟨p, n, xs, rfl, rfl, h, h0, h1, hl, fun z hz => k z _ (S.new hz _)⟩
theorem w_slice {lo hi : Option Int} (S : Hs B M H) (h : SqL K H p xs) (k : ∀ z H', Hs B ((z, .lst (cutV xs lo hi)) :: M) H' → Q (.ref z) H') : rSlL K (.ref p) lo hi H Q := ⟨p, xs, rfl, h, fun z hz => k z _ (S.new hz _)⟩
theorem w_sl {r : V → Option Int → Option Int → Hp → VK → Prop} {tl th : TO} (k : te σ H fun x H1 => tl σ H1 fun l H2 => th σ H2 fun u H3 => r x l u H3 Q) : tSl r te tl th σ H Q := k
def PartI (v : V) (H : Hp) (R : Option Int → Hp → Prop) : Prop := ∃ i, v = .int i ∧ R (some i) H
theorem w_part {R : Option Int → Hp → Prop} (k : te σ H fun x H1 => PartI x H1 R) : tPart te σ H R := k
theorem w_partI {i : Int} {R : Option Int → Hp → Prop} (k : R (some i) H) : PartI (.int i) H R := ⟨i, rfl, k⟩
theorem w_nopart {R : Option Int → Hp → Prop} (k : R none H) : tNoPart σ H R := k
/-- methods of a cell that is a list -/
theorem w_pop {y : V} (S : Hs B M H) (i : Nat) (h : M[i]? = some (p, .lst xs)) (hy : xs[xs.length - 1]? = some y) (k : ∀ H', Hs B (M.set i (p, .lst xs.dropLast)) H' → Q y H') : rPop (.ref p) [] H Q := ⟨p, xs, y, rfl, rfl, S.get i h, hy, k _ (S.put i _ h)⟩
theorem w_popAt {y : V} {j : Int} {n : Nat} (S : Hs B M H) (i : Nat) (h : M[i]? = some (p, .lst xs)) (h0 : -(2 ^ 63) ≤ j) (h1 : j < 2 ^ 63) (hn : seqIndex? j xs.length = some n) (hy : xs[n]? = some y) (k : ∀ H', Hs B (M.set i (p, .lst (xs.eraseIdx n))) H' → Q y H') : rPopAt (.ref p) [.int j] H Q :=
  ⟨p, xs, j, n, y, rfl, rfl, S.get i h, h0, h1, hn, hy, k _ (S.put i _ h)⟩
theorem w_clear (S : Hs B M H) (i : Nat) (h : M[i]? = some (p, .lst xs)) (k : ∀ H', Hs B (M.set i (p, .lst [])) H' → Q .non H') : rClear (.ref p) [] H Q := ⟨p, xs, rfl, rfl, S.get i h, k _ (S.put i _ h)⟩
def rInsX : V → List V → Hp → VK → Prop := fun x vs H Q => ∃ (l : Addr) (xs : List V) (i : Int) (y : V), x = .ref l ∧ vs = [.int i, y] ∧ H l = some (.lst xs) ∧ xs.length < sizeLine ∧ 0 ≤ i ∧ i < 2 ^ 63 ∧ Q .non (upd H l (.lst (xs.take i.toNat ++ [y] ++ xs.drop i.toNat)))
theorem w_insert {y : V} {j : Int} (S : Hs B M H) (i : Nat) (h : M[i]? = some (p, .lst xs)) (hl : xs.length < sizeLine) (h0 : 0 ≤ j) (h1 : j < 2 ^ 63) (k : ∀ H', Hs B (M.set i (p, .lst (xs.take j.toNat ++ [y] ++ xs.drop j.toNat))) H' → Q .non H') : rInsX (.ref p) [.int j, y] H Q :=
  ⟨p, xs, j, y, rfl, rfl, S.get i h, hl, h0, h1, k _ (S.put i _ h)⟩
theorem w_lcount {ns : List Int} {j : Int} (h : SqL K H p (ns.map V.int)) (k : Q (.int (ns.count j : Nat)) H) : rCntI K (.ref p) [.int j] H Q := ⟨p, ns, j, rfl, rfl, h, k⟩
/-- type(x) is T -/
theorem w_typ {x : V} {T : String} (h : TyB K H x T) (k : Q (.ty T) H) : rTyp K [x] H Q := ⟨x, T, rfl, h, k⟩
def rIsTX : R2 := fun x y H Q => ∃ a b, x = .ty a ∧ y = .ty b ∧ Q (.bl (decide (a = b))) H
theorem w_isT {a b : String} (k : Q (.bl (decide (a = b))) H) : rIsTX (.ty a) (.ty b) H Q := ⟨a, b, rfl, rfl, k⟩
theorem w_notT {a b : String} (k : Q (.bl (!decide (a = b))) H) : rNT (.ty a) (.ty b) H Q := ⟨a, b, rfl, rfl, k⟩
def rIsBX : R2 := fun x y H Q => ∃ a b, x = .bl a ∧ y = .bl b ∧ Q (.bl (decide (a = b))) H
def rNotBX : R2 := fun x y H Q => ∃ a b, x = .bl a ∧ y = .bl b ∧ Q (.bl (!decide (a = b))) H
theorem w_isB {a b : Bool} (k : Q (.bl (decide (a = b))) H) : rIsBX (.bl a) (.bl b) H Q := ⟨a, b, rfl, rfl, k⟩
theorem w_notB {a b : Bool} (k : Q (.bl (!decide (a = b))) H) : rNotBX (.bl a) (.bl b) H Q := ⟨a, b, rfl, rfl, k⟩
def rIsNX : R2 := fun x y H Q => y = .non ∧ Q (.bl (decide (x = .non))) H
def rNotNX : R2 := fun x y H Q => y = .non ∧ Q (.bl (!decide (x = .non))) H
theorem w_isN {x : V} (k : Q (.bl (decide (x = .non))) H) : rIsNX x .non H Q := ⟨rfl, k⟩
theorem w_notN {x : V} (k : Q (.bl (!decide (x = .non))) H) : rNotNX x .non H Q := ⟨rfl, k⟩
/-- isinstance -/
theorem w_isi {x c : V} {t u : Value} {b : Bool} (hc : ClsV c u) (ht : TyX K H x t) (e : PySem.W.kitOne K t u = some b) (k : Q (.bl b) H) : rIsi K [x, c] H Q := ⟨x, c, t, u, b, rfl, hc, ht, e, k⟩
/-- a field -/
def FldX (K : PySem.W.Frag) (x : V) (f : Str) (H : Hp) (Q : VK) : Prop := ∃ a C dx fs v, x = .ref a ∧ H a = some (.ins C dx fs) ∧ Cls K C ∧ NoAttr K C f ∧ fs.lookup f = some v ∧ Q v H
theorem w_fld {f : Str} (k : ta σ H fun x H1 => FldX K x f H1 Q) : tFld K ta f σ H Q := k
theorem w_fldE {C dx : Addr} {fs : List (Str × V)} {f : Str} (h : H p = some (.ins C dx fs)) (c : Cls K C) (n : NoAttr K C f) (hv : fs.lookup f = some v) (k : Q v H) : FldX K (.ref p) f H Q := ⟨p, C, dx, fs, v, rfl, h, c, n, hv, k⟩
theorem w_par {i j : Nat} {ta : TA} {R : List V → Hp → Prop} (k : ta σ H fun vs H1 => ∃ v w, vs = [v, w] ∧ D.nx ((σ.set i (some v)).set j (some w)) H1) : tPar i j ta D σ H := k
theorem w_parE {i j : Nat} {v w : V} (k : D.nx ((σ.set i (some v)).set j (some w)) H) : ∃ v' w', [v, w] = [v', w'] ∧ D.nx ((σ.set i (some v')).set j (some w')) H := ⟨v, w, rfl, k⟩
def ChainX (r r' : R2) (x y : V) (tc : TE) (σ : L2.St) (H : Hp) (Q : VK) : Prop := r x y H fun z H3 => ∃ k, z = .bl k ∧ if k = true then tc σ H3 fun u H4 => r' y u H4 Q else Q (.bl false) H3
end
section
variable {X : Cx}
theorem call_lenX : CallR X (.builtin "len") (rLenX X.K) := call_len
theorem call_listX : CallR X (.type "list") (rListX X.K) := call_list_of
theorem call_tupX : CallR X (.type "tuple") (rTupX X.K) := call_tuple_of
theorem call_max2X (hc : X.calm = true) : CallR X (.builtin "max") rMax2X := call_max2 hc
theorem mt_insX : MtR X "list.insert" rInsX := mt_insert
theorem op_isTX : OpR X (compareOp .Is) rIsTX := op_isTyB
theorem op_isBX : OpR X (compareOp .Is) rIsBX := op_is_bl
theorem op_notBX : OpR X (compareOp .IsNot) rNotBX := op_isnot_bl
theorem op_isNX : OpR X (compareOp .Is) rIsNX := op_isN
theorem op_notNX : OpR X (compareOp .IsNot) rNotNX := op_notN
end
theorem len_ok {α : Type} {xs : List α} (h : xs.length ≤ 1000) : xs.length ≤ sizeLine := by
  have := sizeLine_eq
  omega
theorem len_lt {α : Type} {xs : List α} (h : xs.length ≤ 1000) : xs.length < sizeLine := by
  have := sizeLine_eq
  omega
theorem small {n m : Nat} (h : n ≤ m) (hm : m < 16777216 := by decide) : n < sizeLine := by
  have := sizeLine_eq
  omega
theorem small' {n m : Nat} (h : n ≤ m) (hm : m ≤ 16777216 := by decide) : n ≤ sizeLine := by
  have := sizeLine_eq
  omega
end Rw

namespace Rw
open PySem PySem.Spec PyProof.Rows L2
section
variable {K : PySem.W.Frag} {σ : L2.St} {H : Hp} {Q : VK} {D : Ends} {g : TG} {tb : TS} {a b : Addr} {xs ys : List V} {tt : TT} {te : TE} {vs : List Nat}
/-- for i in range(n) -/
theorem for_rng {n : Nat} (Pv : Nat → L2.St → Hp → Prop) (h0 : Pv 0 σ H)
    (hs : ∀ (i : Nat) (σ : L2.St) (H : Hp), i < n → Pv i σ H → g (.int (i : Int)) σ H fun σ2 H2 => tb { D with nx := Pv (i + 1), ct := Pv (i + 1), bk := D.nx } σ2 H2) (hd : ∀ σ H, Pv n σ H → D.nx σ H) : ForJ (Itr 0 n) g tb D σ H :=
  for_range (lo := 0) Pv h0 (fun i σ H hi h => by rw [Int.zero_add]; exact hs i σ H hi h) hd
theorem for_lst (Pv : Nat → L2.St → Hp → Prop) (h0 : Pv 0 σ H) (hl : ∀ i σ H, i ≤ xs.length → Pv i σ H → SqL K H a xs)
    (hs : ∀ (i : Nat) (x : V) (σ : L2.St) (H : Hp), xs[i]? = some x → Pv i σ H → g x σ H fun σ2 H2 => tb { D with nx := Pv (i + 1), ct := Pv (i + 1), bk := D.nx } σ2 H2) (hd : ∀ σ H, Pv xs.length σ H → D.nx σ H) : ForJ (Itl K a) g tb D σ H := for_list Pv h0 hl hs hd
theorem for_tpl (Pv : Nat → L2.St → Hp → Prop) (h0 : Pv 0 σ H) (hl : ∀ i σ H, i ≤ xs.length → Pv i σ H → SqT K H a xs)
    (hs : ∀ (i : Nat) (x : V) (σ : L2.St) (H : Hp), xs[i]? = some x → Pv i σ H → g x σ H fun σ2 H2 => tb { D with nx := Pv (i + 1), ct := Pv (i + 1), bk := D.nx } σ2 H2) (hd : ∀ σ H, Pv xs.length σ H → D.nx σ H) : ForJ (Itt K a) g tb D σ H := for_tup Pv h0 hl hs hd
/-- for i, x in enumerate(xs) -/
theorem for_enu (Pv : Nat → L2.St → Hp → Prop) (h0 : Pv 0 σ H) (hl : ∀ i σ H, i ≤ xs.length → Pv i σ H → SqL K H a xs)
    (hs : ∀ (i : Nat) (x : V) (σ : L2.St) (H : Hp) (T : Addr), xs[i]? = some x → Pv i σ H → H T = none → g (.ref T) σ (upd H T (.tup [.int (i : Int), x])) fun σ2 H2 => tb { D with nx := Pv (i + 1), ct := Pv (i + 1), bk := D.nx } σ2 H2) (hd : ∀ σ H, Pv xs.length σ H → D.nx σ H) : ForJ (Ite K a) g tb D σ H :=
  for_it walk_enum Pv h0 hl (fun i x σ H H' hi h y => by
    obtain ⟨T, u, z, rfl, h2, rfl, e1, e2⟩ := y
    cases e1
    exact hs i z σ H T e2 h h2) hd
end
end Rw

namespace Rw
open PySem PySem.Spec PyProof.Rows L2
section
variable {K : PySem.W.Frag} {σ : L2.St} {H : Hp} {Q : VK} {D : Ends} {B : Hp} {M : List (Addr × HO)} {p : Addr} {xs : List V} {ta tb tc te : TE} {v : V} {r r' : R2}
theorem iteP {c A Z : Prop} [Decidable c] (hc : c) (h : A) : if decide c = true then A else Z := by rw [decide_eq_true hc]; exact iteT h
theorem iteN {c A Z : Prop} [Decidable c] (hc : ¬ c) (h : Z) : if decide c = true then A else Z := by rw [decide_eq_false hc]; exact iteF h
theorem ite3 {c A Z : Prop} [Decidable c] (h1 : c → A) (h2 : ¬ c → Z) : if decide c = true then A else Z := by
  by_cases h : c
  · exact iteP h (h1 h)
  · exact iteN h (h2 h)
/-- and, or, not as values -/
def AndX (x : V) (tb : TE) (σ : L2.St) (H : Hp) (Q : VK) : Prop := ∃ c, x = .bl c ∧ if c = true then tb σ H Q else Q (.bl false) H
def OrX (x : V) (tb : TE) (σ : L2.St) (H : Hp) (Q : VK) : Prop := ∃ c, x = .bl c ∧ if c = true then Q (.bl true) H else tb σ H Q
theorem w_andV (k : ta σ H fun x H1 => AndX x tb σ H1 Q) : tAndV ta tb σ H Q := k
theorem w_orV (k : ta σ H fun x H1 => OrX x tb σ H1 Q) : tOrV ta tb σ H Q := k
theorem w_andE {c : Bool} (k : if c = true then tb σ H Q else Q (.bl false) H) : AndX (.bl c) tb σ H Q := ⟨c, rfl, k⟩
theorem w_orE {c : Bool} (k : if c = true then Q (.bl true) H else tb σ H Q) : OrX (.bl c) tb σ H Q := ⟨c, rfl, k⟩
def NotX (x : V) (H : Hp) (Q : VK) : Prop := ∃ c, x = .bl c ∧ Q (.bl (!c)) H
theorem w_notV (k : ta σ H fun x H1 => NotX x H1 Q) : tNotV ta σ H Q := k
theorem w_notE {c : Bool} (k : Q (.bl (!c)) H) : NotX (.bl c) H Q := ⟨c, rfl, k⟩
/-- a < b < c -/
theorem w_chain (k : ta σ H fun x H1 => tb σ H1 fun y H2 => ChainX r r' x y tc σ H2 Q) : tChain r r' ta tb tc σ H Q := k
theorem w_chainI {f : Int → Int → Bool} {i j : Int} (k : if f i j = true then tc σ H (fun u H4 => r' (.int j) u H4 Q) else Q (.bl false) H) : ChainX (rI0 fun i j => .bl (f i j)) r' (.int i) (.int j) tc σ H Q := ⟨i, j, rfl, rfl, f i j, rfl, k⟩
/-- a method's call, a class's -/
def MethX (C : Addr) (m : Str) (sp : Sp) (x : V) (t : TA) (σ : L2.St) (H : Hp) (Q : VK) : Prop := ∃ a dx fs, x = .ref a ∧ H a = some (.ins C dx fs) ∧ fs.lookup m = none ∧ t σ H fun vs H2 => sp (x :: (vs ++ [])) H2 Q E0
theorem w_meth {C : Addr} {m : Str} {sp : Sp} {t : TA} (k : ta σ H fun x H1 => MethX C m sp x t σ H1 Q) : tMeth C m sp [] E0 ta t σ H Q := k
theorem w_methE {C dx : Addr} {m : Str} {sp : Sp} {t : TA} {fs : List (Str × V)} (h : H p = some (.ins C dx fs)) (hm : fs.lookup m = none) (k : t σ H fun vs H2 => sp (.ref p :: (vs ++ [])) H2 Q E0) : MethX C m sp (.ref p) t σ H Q := ⟨p, dx, fs, rfl, h, hm, k⟩
def MakeX (C : Addr) (sp : Sp) (vs : List V) (H : Hp) (Q : VK) : Prop := ∀ x dx, H x = none → H dx = none → dx ≠ x → sp (.ref x :: (vs ++ [])) (upd (upd H dx (.own x)) x (.ins C dx [])) (fun v H2 => v = .non ∧ Q (.ref x) H2) E0
theorem w_make {C : Addr} {sp : Sp} {t : TA} (k : t σ H fun vs H1 => MakeX C sp vs H1 Q) : tMake C sp [] E0 t σ H Q := k
theorem w_makeE {C : Addr} {sp : Sp} {vs : List V} (S : Hs B M H) (k : ∀ x dx H', Hs B ((x, .ins C dx []) :: (dx, .own x) :: M) H' → sp (.ref x :: (vs ++ [])) H' (fun v H2 => v = .non ∧ Q (.ref x) H2) E0) : MakeX C sp vs H Q := fun x dx hx hd ne =>
  k x dx _ ((S.new hd (.own x)).new (by rw [upd_ne ne.symm]; exact hx) _)
/-- a field's store -/
def SFldX (K : PySem.W.Frag) (y x : V) (f : Str) (D : Ends) (σ : L2.St) (H : Hp) : Prop := ∃ a C dx fs, x = .ref a ∧ H a = some (.ins C dx fs) ∧ Cls K C ∧ NoAttr K C f ∧ fs.length < 1000 ∧ D.nx σ (upd H a (.ins C dx (putF f y fs)))
theorem w_sfld {f : Str} {tv : TE} (k : tv σ H fun y H1 => ta σ H1 fun x H2 => SFldX K y x f D σ H2) : sFld K ta tv f D σ H := k
theorem w_sfldE {C dx : Addr} {f : Str} {y : V} {fs : List (Str × V)} (S : Hs B M H) (i : Nat) (h : M[i]? = some (p, .ins C dx fs)) (c : Cls K C) (n : NoAttr K C f) (hl : fs.length < 1000) (k : ∀ H', Hs B (M.set i (p, .ins C dx (putF f y fs))) H' → D.nx σ H') : SFldX K y (.ref p) f D σ H :=
  ⟨p, C, dx, fs, rfl, S.get i h, c, n, hl, k _ (S.put i _ h)⟩
/-- x and y by truth -/
theorem w_iteB {b : Bool} {A Z : Prop} (h1 : b = true → A) (h2 : b = false → Z) : if b = true then A else Z := by
  cases b with
  | true => exact iteT (h1 rfl)
  | false => exact iteF (h2 rfl)
/-! ### comprehensions: the list is made in a cell, what it holds stands in B -/
/-- behind a turn: an item more, none more -/
def LcP (B : Hp) (M : List (Addr × HO)) (Pv : Nat → Hp → List V → Prop) (i : Nat) (E : Addr) (y : V) (H4 : Hp) : Prop := ∃ acc, H4 E = some (.lst acc) ∧ acc.length < sizeLine ∧ ∃ B' acc', Same B B' ∧ acc'.length ≤ i ∧ Hs B' ((E, .lst acc') :: M) (upd H4 E (.lst (acc ++ [y]))) ∧ Pv i B' acc'
def LcN (B : Hp) (M : List (Addr × HO)) (Pv : Nat → Hp → List V → Prop) (i : Nat) (E : Addr) (H3 : Hp) : Prop := ∃ B' acc', Same B B' ∧ acc'.length ≤ i ∧ Hs B' ((E, .lst acc') :: M) H3 ∧ Pv i B' acc'
theorem lcp {Pv : Nat → Hp → List V → Prop} {i : Nat} {E : Addr} {y : V} {acc : List V} {B4 : Hp} (S4 : Hs B4 ((E, .lst acc) :: M) H) (e : Same B B4) (hl : acc.length ≤ i) (hi : i < 1000) (pv : Pv (i + 1) B4 (acc ++ [y])) : LcP B M Pv (i + 1) E y H :=
  ⟨acc, S4.get 0, len_lt (by omega), B4, acc ++ [y], e, by simp; omega, S4.put 0 _, pv⟩
theorem lcn {Pv : Nat → Hp → List V → Prop} {i : Nat} {E : Addr} {acc : List V} {B4 : Hp} (S4 : Hs B4 ((E, .lst acc) :: M) H) (e : Same B B4) (hl : acc.length ≤ i) (pv : Pv (i + 1) B4 acc) : LcN B M Pv (i + 1) E H :=
  ⟨B4, acc, e, by omega, S4, pv⟩
theorem lc_by {J : It} {n : Nat} {G : Hp → Prop} {Y : Nat → Hp → V → Hp → Prop} {g : TG} {tt : TT} {vs : List Nat} (W : Walk J n G Y) (S : Hs B M H) (Pv : Nat → Hp → List V → Prop) (h0 : Pv 0 B [])
    (hG : ∀ B' H', Same B B' → Hs B' M H' → G H')
    (hs : ∀ (i : Nat) (x : V) (E : Addr) (B' : Hp) (acc : List V) (H' H'' : Hp), i < n → acc.length ≤ i → Same B B' → Hs B' ((E, .lst acc) :: M) H' → Pv i B' acc → Y i H' x H'' → g x (wipe σ vs) H'' fun σ2 H2 => wipe σ2 vs = wipe σ vs ∧ tt σ2 H2 fun b H3 =>
      if b = true then te σ2 H3 fun y H4 => LcP B M Pv (i + 1) E y H4 else LcN B M Pv (i + 1) E H3)
    (hd : ∀ (E : Addr) (B' : Hp) (acc : List V) (H' : Hp), Same B B' → Hs B' ((E, .lst acc) :: M) H' → acc.length ≤ n → Pv n B' acc → Q (.ref E) H') : LcJ J g tt te vs σ H Q := by
  intro E hE
  refine lc_it W (fun i H' => ∃ B' acc, Same B B' ∧ acc.length ≤ i ∧ Hs B' ((E, .lst acc) :: M) H' ∧ Pv i B' acc) ⟨B, [], Same.refl B, Nat.le_refl _, S.new hE _, h0⟩ (fun i H' _ ⟨B', acc, e, _, S', _⟩ => hG B' H' e (S'.drop 0)) ?_ ?_
  · rintro i x H' H'' hi ⟨B', acc, e, hl, S', pv⟩ y
    exact hs i x E B' acc H' H'' hi hl e S' pv y
  · rintro H' ⟨B', acc, e, hl, S', pv⟩
    exact hd E B' acc H' e S' hl pv
/-- over a list, a tuple that stands in B; over a range -/
theorem lc_L {a : Addr} {ys : List V} {g : TG} {tt : TT} {vs : List Nat} (S : Hs B M H) (hx : B a = some (.lst ys)) (Pv : Nat → Hp → List V → Prop) (h0 : Pv 0 B [])
    (hs : ∀ (i : Nat) (x : V) (E : Addr) (B' : Hp) (acc : List V) (H' : Hp), ys[i]? = some x → acc.length ≤ i → Same B B' → Hs B' ((E, .lst acc) :: M) H' → Pv i B' acc → g x (wipe σ vs) H' fun σ2 H2 => wipe σ2 vs = wipe σ vs ∧ tt σ2 H2 fun b H3 =>
      if b = true then te σ2 H3 fun y H4 => LcP B M Pv (i + 1) E y H4 else LcN B M Pv (i + 1) E H3)
    (hd : ∀ (E : Addr) (B' : Hp) (acc : List V) (H' : Hp), Same B B' → Hs B' ((E, .lst acc) :: M) H' → acc.length ≤ ys.length → Pv ys.length B' acc → Q (.ref E) H') : LcJ (Itl K a) g tt te vs σ H Q :=
  lc_by (walk_list (K := K) (a := a) (xs := ys)) S Pv h0 (fun B' H' e S' => sqL_of (S'.ex _ _ (e _ _ hx))) (fun i x E B' acc H' H'' _ hl e S' pv y => by
    obtain ⟨rfl, hx⟩ := y
    exact hs i x E B' acc _ hx hl e S' pv) hd
theorem lc_T {a : Addr} {ys : List V} {g : TG} {tt : TT} {vs : List Nat} (S : Hs B M H) (hx : B a = some (.tup ys)) (Pv : Nat → Hp → List V → Prop) (h0 : Pv 0 B [])
    (hs : ∀ (i : Nat) (x : V) (E : Addr) (B' : Hp) (acc : List V) (H' : Hp), ys[i]? = some x → acc.length ≤ i → Same B B' → Hs B' ((E, .lst acc) :: M) H' → Pv i B' acc → g x (wipe σ vs) H' fun σ2 H2 => wipe σ2 vs = wipe σ vs ∧ tt σ2 H2 fun b H3 =>
      if b = true then te σ2 H3 fun y H4 => LcP B M Pv (i + 1) E y H4 else LcN B M Pv (i + 1) E H3)
    (hd : ∀ (E : Addr) (B' : Hp) (acc : List V) (H' : Hp), Same B B' → Hs B' ((E, .lst acc) :: M) H' → acc.length ≤ ys.length → Pv ys.length B' acc → Q (.ref E) H') : LcJ (Itt K a) g tt te vs σ H Q :=
  lc_by (walk_tup (K := K) (a := a) (xs := ys)) S Pv h0 (fun B' H' e S' => sqT_of (S'.ex _ _ (e _ _ hx))) (fun i x E B' acc H' H'' _ hl e S' pv y => by
    obtain ⟨rfl, hx⟩ := y
    exact hs i x E B' acc _ hx hl e S' pv) hd
theorem lc_R {n : Nat} {g : TG} {tt : TT} {vs : List Nat} (S : Hs B M H) (Pv : Nat → Hp → List V → Prop) (h0 : Pv 0 B [])
    (hs : ∀ (i : Nat) (E : Addr) (B' : Hp) (acc : List V) (H' : Hp), i < n → acc.length ≤ i → Same B B' → Hs B' ((E, .lst acc) :: M) H' → Pv i B' acc → g (.int (i : Int)) (wipe σ vs) H' fun σ2 H2 => wipe σ2 vs = wipe σ vs ∧ tt σ2 H2 fun b H3 =>
      if b = true then te σ2 H3 fun y H4 => LcP B M Pv (i + 1) E y H4 else LcN B M Pv (i + 1) E H3)
    (hd : ∀ (E : Addr) (B' : Hp) (acc : List V) (H' : Hp), Same B B' → Hs B' ((E, .lst acc) :: M) H' → acc.length ≤ n → Pv n B' acc → Q (.ref E) H') : LcJ (Itr 0 n) g tt te vs σ H Q :=
  lc_by (walk_range (lo := 0) (n := n)) S Pv h0 (fun _ _ _ _ => trivial) (fun i x E B' acc H' H'' hi hl e S' pv y => by
    obtain ⟨rfl, rfl⟩ := y
    show g (.int (0 + (i : Int))) _ _ _
    rw [Int.zero_add]
    exact hs i E B' acc _ hi hl e S' pv) hd
/-- over enumerate(xs), the pair a cell -/
theorem lc_E {a : Addr} {ys : List V} {g : TG} {tt : TT} {vs : List Nat} (S : Hs B M H) (hx : B a = some (.lst ys)) (Pv : Nat → Hp → List V → Prop) (h0 : Pv 0 B [])
    (hs : ∀ (i : Nat) (x : V) (E T : Addr) (B' : Hp) (acc : List V) (H' : Hp), ys[i]? = some x → acc.length ≤ i → Same B B' → Hs B' ((T, .tup [.int (i : Int), x]) :: (E, .lst acc) :: M) H' → Pv i B' acc → g (.ref T) (wipe σ vs) H' fun σ2 H2 => wipe σ2 vs = wipe σ vs ∧ tt σ2 H2 fun b H3 =>
      if b = true then te σ2 H3 fun y H4 => LcP B M Pv (i + 1) E y H4 else LcN B M Pv (i + 1) E H3)
    (hd : ∀ (E : Addr) (B' : Hp) (acc : List V) (H' : Hp), Same B B' → Hs B' ((E, .lst acc) :: M) H' → acc.length ≤ ys.length → Pv ys.length B' acc → Q (.ref E) H') : LcJ (Ite K a) g tt te vs σ H Q :=
  lc_by (walk_enum (K := K) (a := a) (xs := ys)) S Pv h0 (fun B' H' e S' => sqL_of (S'.ex _ _ (e _ _ hx))) (fun i x E B' acc H' H'' _ hl e S' pv y => by
    obtain ⟨T, u, z, rfl, h2, rfl, e1, e2⟩ := y
    cases e1
    exact hs i z E T B' acc _ e2 hl e (S'.new h2 _) pv) hd
end
end Rw

namespace Rw
open PySem PySem.Spec PyProof.Rows L2
/-! ### methods, classes -/
structure CalM (P : Program) (w : World) (K : PySem.W.Frag) (mg : Str → Option Value) (base : Heap) (C : Addr) (m : Str) (k : Nat) (ps : List Str) (sp : Sp) : Prop where
  ex : ∃ (f : Addr) (fd : FuncData), Meth K C m f ∧ Binds K fd ps [] ∧ FnOk P w K mg base CX0 k f fd ps sp
structure CalC (P : Program) (w : World) (K : PySem.W.Frag) (mg : Str → Option Value) (base : Heap) (C : Addr) (x : Str) (k : Nat) (ps : List Str) (sp : Sp) : Prop where
  ex : ∃ (f : Addr) (fd : FuncData), mg x = some (.ref C) ∧ Mk K C f ∧ Binds K fd ps [] ∧ FnOk P w K mg base CX0 k f fd ps sp
structure GloM (K : PySem.W.Frag) (C : Addr) (m qual : Str) (st : Stmt) : Prop where
  ex : ∃ (f : Addr) (fd : FuncData), Meth K C m f ∧ Fun K m qual st f fd
structure GloC (K : PySem.W.Frag) (mg : Str → Option Value) (C : Addr) (x qual : Str) (st : Stmt) : Prop where
  ex : ∃ (f : Addr) (fd : FuncData), mg x = some (.ref C) ∧ Mk K C f ∧ Fun K "__init__" qual st f fd
section
variable {P : Program} {w : World} {K : PySem.W.Frag} {mg : Str → Option Value} {base : Heap} {C : Addr} {x m qual : Str} {st : Stmt} {k : Nat} {ps N : List Str} {sp : Sp}
theorem GloM.cal (G : GloM K C m qual st) (S : FnScope N ps (defScope st)) (bn : ∀ (kV doc pm : Value) (an : Option Addr) (cdv ct : Value) (us : List Value), us.length = ps.length → bindArgs (PySem.W.fnOf m qual (defArgs st) (defBody st) (defScope st) .none kV doc pm an cdv ct) ⟨us, []⟩ = pure (ps.zip us))
    (len : ∀ (vs : List V) (H : Hp) (Q : VK) (E : XK), sp vs H Q E → vs.length = ps.length)
    (hbody : ∀ (f : Addr) (cdv : Value) (A : Around) (outer : List Env) (s : Shared) (H : Hp) (vs : List V) (Q : VK) (E : XK), Room k (A.deeper (envOfC qual (defScope st) s.heap.objs.size f cdv)) → sp vs H Q E →
      ∃ t, PSs (cxOf CX0 P w K mg base N qual (defScope st) f cdv A outer s H E).nox (defBody st) t ∧ t { nx := fun _ H' => Q .non H', rt := Q } (start N vs) H) : CalM P w K mg base C m (k + 1) ps sp := by
  obtain ⟨f, fd, h1, F⟩ := G.ex
  exact ⟨f, fd, h1, F.binds bn, F.ok S len (fun cdv A outer s H vs Q E hr h => hbody f cdv A outer s H vs Q E hr h)⟩
theorem GloC.cal (G : GloC K mg C x qual st) (S : FnScope N ps (defScope st)) (bn : ∀ (kV doc pm : Value) (an : Option Addr) (cdv ct : Value) (us : List Value), us.length = ps.length → bindArgs (PySem.W.fnOf "__init__" qual (defArgs st) (defBody st) (defScope st) .none kV doc pm an cdv ct) ⟨us, []⟩ = pure (ps.zip us))
    (len : ∀ (vs : List V) (H : Hp) (Q : VK) (E : XK), sp vs H Q E → vs.length = ps.length)
    (hbody : ∀ (f : Addr) (cdv : Value) (A : Around) (outer : List Env) (s : Shared) (H : Hp) (vs : List V) (Q : VK) (E : XK), Room k (A.deeper (envOfC qual (defScope st) s.heap.objs.size f cdv)) → sp vs H Q E →
      ∃ t, PSs (cxOf CX0 P w K mg base N qual (defScope st) f cdv A outer s H E).nox (defBody st) t ∧ t { nx := fun _ H' => Q .non H', rt := Q } (start N vs) H) : CalC P w K mg base C x (k + 1) ps sp := by
  obtain ⟨f, fd, h1, h2, F⟩ := G.ex
  exact ⟨f, fd, h1, h2, F.binds bn, F.ok S len (fun cdv A outer s H vs Q E hr h => hbody f cdv A outer s H vs Q E hr h)⟩
end
section
variable {X : Cx} {C : Addr} {x m : Str} {k : Nat} {ps : List Str} {sp : Sp} {o e : Expr} {es : List Expr} {ta : TE} {t : TA} {p apos pos : Pos}
theorem pe_calM {pl : Sem Bool} (he : PE X o ta) (T : Cls X.K C) (F : CalM X.prog X.w X.K X.mg X.base C m k ps sp) (hr : Room k X.A) (ha : PA X (e :: es) t)
    (star : starEach (e :: es) X.env = (false, eval e X.env) :: starEach es X.env := by rfl) (plain : (backTo pos (starEach es X.env)).any (·.1) = false := by rfl) (ht : eval (.Call (.Attribute o m apos) (e :: es) [] pos) X.env = (do
      let w ← eval o X.env
      standAt apos.atName
      let (f, one) ← holding [w] (getMethod w m pl)
      callWith pos f one (backTo pos (starEach (e :: es) X.env)) (backToKw pos (keywordEach [] X.env))) := by rfl) :
    PE X (.Call (.Attribute o m apos) (e :: es) [] pos) (tMeth C m sp [] E0 ta t) := by
  obtain ⟨f, fd, h1, h2, h3⟩ := F.ex
  exact pe_meth he T h1 h3 hr h2 .nil pass0 ha star plain ht
theorem pe_calM0 {pl : Sem Bool} (he : PE X o ta) (T : Cls X.K C) (F : CalM X.prog X.w X.K X.mg X.base C m k ps sp) (hr : Room k X.A)
    (bare : eval (.Call (.Attribute o m apos) [] [] pos) X.env = (do
      let w ← eval o X.env
      standAt apos.atName
      let (f, one) ← holding [w] (getMethod w m pl)
      callWith pos f one (backTo pos (starEach [] X.env)) (backToKw pos (keywordEach [] X.env))) := by rfl) :
    PE X (.Call (.Attribute o m apos) [] [] pos) (tMeth C m sp [] E0 ta tNil) := by
  obtain ⟨f, fd, h1, h2, h3⟩ := F.ex
  exact pe_meth0 he T h1 h3 hr h2 .nil pass0 bare
theorem pe_mk (F : CalC X.prog X.w X.K X.mg X.base C x k ps sp) (hr : Room (k + 1) X.A) (hg : Gl X x) (ha : PA X (e :: es) t) (hdb : (x == ("__debug__" : Str)) = false := by decide) (he : starEach (e :: es) X.env = (false, eval e X.env) :: starEach es X.env := by rfl) (hpl : (backTo pos (starEach es X.env)).any (·.1) = false := by rfl) :
    PE X (.Call (.Name x p) (e :: es) [] pos) (tMake C sp [] E0 t) := by
  obtain ⟨f, fd, h1, h2, h3, h4⟩ := F.ex
  exact pe_make h2 h4 hr hg h1 h3 .nil pass0 ha hdb he hpl
end
end Rw

namespace Rw
open PySem PySem.Spec PyProof.Rows L2
/-! ### rules by the written part -/
section
variable {X : Cx}
theorem k_len (K : PySem.W.Frag) (e : X.K = K := by rfl) : CallR X (.builtin "len") (rLenX K) := by subst e; exact call_lenX
theorem k_list (K : PySem.W.Frag) (e : X.K = K := by rfl) : CallR X (.type "list") (rListX K) := by subst e; exact call_listX
theorem k_tuple (K : PySem.W.Frag) (e : X.K = K := by rfl) : CallR X (.type "tuple") (rTupX K) := by subst e; exact call_tupX
theorem k_type (K : PySem.W.Frag) (e : X.K = K := by rfl) : CallR X (.type "type") (rTyp K) := by subst e; exact call_type1
theorem k_isi (K : PySem.W.Frag) (e : X.K = K := by rfl) : CallR X (.builtin "isinstance") (rIsi K) := by subst e; exact call_isi
theorem k_sum (K : PySem.W.Frag) (hc : X.calm = true) (e : X.K = K := by rfl) : CallR X (.builtin "sum") (rSum K) := by subst e; exact cr_sum hc
theorem k_all (K : PySem.W.Frag) (hc : X.calm = true) (e : X.K = K := by rfl) : CallR X (.builtin "all") (rAll K) := by subst e; exact cr_all hc
theorem k_any (K : PySem.W.Frag) (hc : X.calm = true) (e : X.K = K := by rfl) : CallR X (.builtin "any") (rAny K) := by subst e; exact cr_any hc
theorem k_in (K : PySem.W.Frag) (e : X.K = K := by rfl) : OpR X (compareOp .In) (rIn K false) := by subst e; exact op_in_seq
theorem k_notIn (K : PySem.W.Frag) (e : X.K = K := by rfl) : OpR X (compareOp .NotIn) (rIn K true) := by subst e; exact op_notIn_seq
theorem k_eqD (K : PySem.W.Frag) (hu : X.A.units + 64 < cLine) (e : X.K = K := by rfl) : OpR X (compareOp .Eq) (rEqD K) := by subst e; exact op_eqD hu
theorem k_neD (K : PySem.W.Frag) (hu : X.A.units + 64 < cLine) (e : X.K = K := by rfl) : OpR X (compareOp .NotEq) (rNeD K) := by subst e; exact op_neD hu
theorem k_ixL (K : PySem.W.Frag) (e : X.K = K := by rfl) : IxR X (rIxL K) := by subst e; exact ix_list
theorem k_ixT (K : PySem.W.Frag) (e : X.K = K := by rfl) : IxR X (rIxT K) := by subst e; exact ix_tup
theorem k_slL (K : PySem.W.Frag) (e : X.K = K := by rfl) : SlR X (rSlL K) := by subst e; exact sl_list
theorem k_slT (K : PySem.W.Frag) (e : X.K = K := by rfl) : SlR X (rSlT K) := by subst e; exact sl_tup
theorem k_lcount (K : PySem.W.Frag) (e : X.K = K := by rfl) : MtR X "list.count" (rCntI K) := by subst e; exact mt_lcount
variable {value e o : Expr} {es : List Expr} {ta tv te to tl : TE} {t : TA} {f name : Str} {T id : String} {r : V → List V → Hp → VK → Prop} {pos pos' apos cpos tpos p : Pos} {tg : Expr} {elts : List Expr} {kk n : Nat}
theorem pe_fldK (K : PySem.W.Frag) (he : PE X e ta) (hb : attributeBase e f X.env (eval e X.env) = eval e X.env) (eK : X.K = K := by rfl) : PE X (.Attribute e f pos) (tFld K ta f) := by subst eK; exact pe_fld he hb
theorem ps_fldK (K : PySem.W.Frag) (ha : PE X o ta) (hv : PE X value tv) (hs : swapsWith value (some (.Attribute o f pos')) pos.line X.env = pure false) (eK : X.K = K := by rfl) : PS X (.Assign [.Attribute o f pos'] value pos) (sFld K ta tv f) := by subst eK; exact ps_fld ha hv hs
theorem pe_bm0K (K : PySem.W.Frag) (pa : PlainAttrs T) (slot : Slot T name id) (hty : typeOf (.builtin id) = pure (.type "method_descriptor")) (hm : MtR X id r) (ho : PE X o to)
    (eK : X.K = K := by rfl) (hbase : attributeBase o name X.env (eval o X.env) = eval o X.env := by rfl) (hline : (apos.endLine == cpos.line) = true := by rfl) : PE X (.Call (.Attribute o name apos) [] [] cpos) (tBM0 K T r to) := by
  subst eK
  exact pe_bm0 pa slot hty hm ho hbase hline
theorem pe_bmK (K : PySem.W.Frag) (pa : PlainAttrs T) (slot : Slot T name id) (hty : typeOf (.builtin id) = pure (.type "method_descriptor")) (hm : MtR X id r) (ho : PE X o to) (ha : PA X (e :: es) t)
    (eK : X.K = K := by rfl) (hbase : attributeBase o name X.env (eval o X.env) = eval o X.env := by rfl)
    (few : ((backTo cpos (starEach (e :: es) X.env)).all (fun z => !z.1) && (backToKw cpos (keywordEach [] X.env)).all (fun z => z.1.isSome) && decide ((e :: es).length + ([] : List Keyword).length + (if ([] : List Keyword).isEmpty then 0 else 1) < 30)) = true := by rfl)
    (line : (apos.endLine == cpos.line) = true := by rfl) (star : starEach (e :: es) X.env = (false, eval e X.env) :: starEach es X.env := by rfl) (plain : (backTo cpos (starEach es X.env)).any (·.1) = false := by rfl) :
    PE X (.Call (.Attribute o name apos) (e :: es) [] cpos) (tBM K T r to t) := by
  subst eK
  exact pe_bm pa slot hty hm ho ha hbase few line star plain
def tTru (K : PySem.W.Frag) (ta : TE) : TT := fun σ H Q => ta σ H fun x H' => ∃ c, TruV K x H' c ∧ Q c H'
theorem pt_truthK (K : PySem.W.Frag) (ha : PE X e ta) (he : ∀ whole, isTrue e X.env whole = (do let v ← whole; standAt e.pos; holding [v] (truthy v))) (eK : X.K = K := by rfl) : PT X e (tTru K ta) := by subst eK; exact pt_truth ha he
theorem pe_notTK (K : PySem.W.Frag) (ha : PE X e ta) (eK : X.K = K := by rfl) : PE X (.UnaryOp .Not e pos) (tNotT K ta) := by subst eK; exact pe_notT ha
theorem pe_andTK {b : Expr} {rest : List Expr} {tb : TE} (K : PySem.W.Frag) (ha : PE X e ta) (hb : PE X (.BoolOp .And (b :: rest) pos) tb) (eK : X.K = K := by rfl) : PE X (.BoolOp .And (e :: b :: rest) pos) (tAndT K ta tb) := by subst eK; exact pe_andT ha hb
theorem pe_orTK {b : Expr} {rest : List Expr} {tb : TE} (K : PySem.W.Frag) (ha : PE X e ta) (hb : PE X (.BoolOp .Or (b :: rest) pos) tb) (eK : X.K = K := by rfl) : PE X (.BoolOp .Or (e :: b :: rest) pos) (tOrT K ta tb) := by subst eK; exact pe_orT ha hb
theorem pi_listK (K : PySem.W.Frag) (hl : PE X e tl) (eK : X.K = K := by rfl) : PI X tg e (iList K tl) := by subst eK; exact pi_list hl
theorem pi_tupK (K : PySem.W.Frag) (hl : PE X e tl) (eK : X.K = K := by rfl) : PI X tg e (iTup K tl) := by subst eK; exact pi_tup hl
theorem pi_enumK {ta : TA} (K : PySem.W.Frag) (hg : Gl X "enumerate") (hm : X.mg "enumerate" = none) (ha : PA X [e] ta) (eK : X.K = K := by rfl) (hs : starEach [e] X.env = [(false, eval e X.env)] := by rfl) :
    PI X (.Tuple elts kk tpos) (.Call (.Name "enumerate" p) [e] [] pos) (iEnum K ta) := by subst eK; exact pi_enum hg hm ha hs
theorem pi_zipK {e2 : Expr} {ta : TA} (K : PySem.W.Frag) (hg : Gl X "zip") (hm : X.mg "zip" = none) (ha : PA X [e, e2] ta) (eK : X.K = K := by rfl)
    (star : starEach [e, e2] X.env = (false, eval e X.env) :: starEach [e2] X.env := by rfl) (plain : (backTo pos (starEach [e2] X.env)).any (·.1) = false := by rfl) :
    PI X (.Tuple elts kk tpos) (.Call (.Name "zip" p) [e, e2] [] pos) (iZip K ta) := by subst eK; exact pi_zip hg hm ha star plain
theorem pg_tupK {t : TGs} (K : PySem.W.Frag) (hc : X.calm = true) (h : PGs X es t) (eK : X.K = K := by rfl)
    (hn : (assignEach es X.env).length = n := by rfl) (hst : (assignEach es X.env).findIdx? (·.1) = none := by rfl) : PG X (.Tuple es kk pos) (gTup K n t) := by subst eK; exact pg_tup hc h hn hst
end
/-! their readings -/
section
variable {K : PySem.W.Frag} {σ : L2.St} {H : Hp} {Q : VK} {ta tb : TE} {p : Addr} {xs : List V} {v : V}
def TruX (K : PySem.W.Frag) (x : V) (H : Hp) (R : Bool → Hp → Prop) : Prop := ∃ k, TruV K x H k ∧ R k H
theorem w_tru {R : Bool → Hp → Prop} (k : ta σ H fun x H' => TruX K x H' R) : tTru K ta σ H R := k
theorem w_truB {R : Bool → Hp → Prop} {b : Bool} (k : R b H) : TruX K (.bl b) H R := ⟨b, rfl, k⟩
theorem w_truI {R : Bool → Hp → Prop} {i : Int} (k : R (i != 0) H) : TruX K (.int i) H R := ⟨_, rfl, k⟩
theorem w_truL {R : Bool → Hp → Prop} (h : SqL K H p xs) (k : R (!xs.isEmpty) H) : TruX K (.ref p) H R := ⟨_, .inl ⟨xs, h, rfl⟩, k⟩
theorem w_truT {R : Bool → Hp → Prop} (h : SqT K H p xs) (k : R (!xs.isEmpty) H) : TruX K (.ref p) H R := ⟨_, .inr (.inl ⟨xs, h, rfl⟩), k⟩
theorem w_notT' (k : ta σ H fun x H1 => TruX K x H1 fun c H2 => Q (.bl (!c)) H2) : tNotT K ta σ H Q := k
theorem w_andT (k : ta σ H fun x H1 => TruX K x H1 fun c H2 => if c = true then tb σ H2 Q else Q x H2) : tAndT K ta tb σ H Q := k
theorem w_orT (k : ta σ H fun x H1 => TruX K x H1 fun c H2 => if c = true then Q x H2 else tb σ H2 Q) : tOrT K ta tb σ H Q := k
end
end Rw

namespace Rw
open PySem PySem.Spec PyProof.Rows L2
section
variable {σ : L2.St} {H : Hp} {D : Ends} {tb : TS} {c : TT}
/-- while, by a word over things of one's own and a measure of these -/
def WhW {α : Type} (Pv : α → L2.St → Hp → Prop) (μ : α → Nat) (m : Nat) (σ : L2.St) (H : Hp) : Prop := ∃ a, μ a = m ∧ Pv a σ H
def WhB {α : Type} (Pv : α → L2.St → Hp → Prop) (μ : α → Nat) (m : Nat) (tb : TS) (D : Ends) (σ : L2.St) (H : Hp) : Prop := ∃ N : L2.St → Hp → Prop, (∀ σ' H', N σ' H' → ∃ m', m' < m ∧ WhW Pv μ m' σ' H') ∧ tb { D with nx := N, ct := N, bk := D.nx } σ H
theorem whb {α : Type} {Pv : α → L2.St → Hp → Prop} {μ : α → Nat} {m : Nat} (k : tb { D with nx := fun σ' H' => ∃ a, μ a < m ∧ Pv a σ' H', ct := fun σ' H' => ∃ a, μ a < m ∧ Pv a σ' H', bk := D.nx } σ H) : WhB Pv μ m tb D σ H :=
  ⟨_, fun σ' H' ⟨a, h1, h2⟩ => ⟨_, h1, a, rfl, h2⟩, k⟩
theorem w_while {α : Type} (Pv : α → L2.St → Hp → Prop) (μ : α → Nat) (a0 : α) (h0 : Pv a0 σ H)
    (hs : ∀ a σ H, Pv a σ H → c σ H fun b H1 => if b = true then WhB Pv μ (μ a) tb D σ H1 else D.nx σ H1) : tWhile c tb D σ H := by
  refine ⟨WhW Pv μ, ⟨_, a0, rfl, h0⟩, ?_⟩
  rintro m σ H ⟨a, rfl, p⟩
  exact hs a σ H p
end
/-! ### ints in lists -/
theorem inV_int (c : Int) : ∀ xs : List Int, inV (.int c) (xs.map V.int) = decide (c ∈ xs)
  | [] => by simp [inV]
  | x :: xs => by
    have ih := inV_int c xs
    unfold inV at ih ⊢
    rw [List.map_cons, List.any_cons, ih]
    show ((x == c) || decide (c ∈ xs)) = decide (c ∈ x :: xs)
    rw [Bool.eq_iff_iff]
    simp only [Bool.or_eq_true, beq_iff_eq, decide_eq_true_eq, List.mem_cons]
    constructor
    · rintro (h | h)
      · exact .inl h.symm
      · exact .inr h
    · rintro (h | h)
      · exact .inl h.symm
      · exact .inr h
theorem flat_ints : ∀ xs : List Int, (xs.map V.int).all flatV = true
  | [] => rfl
  | x :: xs => by rw [List.map_cons, List.all_cons, flat_ints xs]; rfl
/-- a list without repeats of numbers below n has at most n items -/
theorem pigeon : ∀ (n : Nat) (xs : List Int), xs.Nodup → (∀ x ∈ xs, 0 ≤ x ∧ x < (n : Int)) → xs.length ≤ n
  | 0, xs, _, h => by
    cases xs with
    | nil => exact Nat.le_refl _
    | cons x xs => have := h x List.mem_cons_self; omega
  | n + 1, xs, nd, h => by
    have h2 : (xs.erase (n : Int)).length ≤ n := pigeon n _ (nd.erase _) fun x hx => by
      have hm := List.mem_of_mem_erase hx
      have hne : x ≠ (n : Int) := fun e => by
        subst e
        exact ((List.Nodup.mem_erase_iff nd).mp hx).1 rfl
      have := h x hm
      omega
    rw [List.length_erase] at h2
    split at h2 <;> omega
theorem pigeon_all {n : Nat} {xs : List Int} (nd : xs.Nodup) (h : ∀ x ∈ xs, 0 ≤ x ∧ x < (n : Int)) : xs.length = n ↔ ∀ x : Int, 0 ≤ x → x < (n : Int) → x ∈ xs := by
  constructor
  · intro e x h0 h1
    refine Classical.byContradiction fun hx => ?_
    have := pigeon n (x :: xs) (List.nodup_cons.mpr ⟨hx, nd⟩) fun y hy => by
      rcases List.mem_cons.mp hy with rfl | hy
      · exact ⟨h0, h1⟩
      · exact h y hy
    simp at this
    omega
  · intro hall
    refine Nat.le_antisymm (pigeon n xs nd h) ?_
    have hsub : ((List.range n).map fun i : Nat => (i : Int)) ⊆ xs := fun y hy => by
      obtain ⟨i, hi, rfl⟩ := List.mem_map.mp hy
      have := List.mem_range.mp hi
      exact hall _ (by omega) (by omega)
    have hnd : ((List.range n).map fun i : Nat => (i : Int)).Nodup := by
      refine List.Pairwise.map _ (fun a b hab e => hab ?_) List.nodup_range
      exact Int.ofNat.inj e
    have := hnd.length_le_of_subset hsub
    simpa using this
end Rw

namespace Rw
open PySem PySem.Spec PyProof.Rows L2
/-! ### tuples whose object is known: their methods may be called -/
def FT (H : Hp) (p : Addr) (xs : List V) : Prop := ∃ o : Obj, o.cls = .type "tuple" ∧ o.dict = none ∧ H p = some (.frz o (.tup xs))
theorem FT.sq {K : PySem.W.Frag} {H : Hp} {p : Addr} {xs : List V} (h : FT H p xs) : SqT K H p xs := by
  obtain ⟨o, _, _, h⟩ := h
  exact .inl (.inr ⟨o, h⟩)
theorem FT.mono {H H' : Hp} {p : Addr} {xs : List V} (e : Same H H') (h : FT H p xs) : FT H' p xs := by
  obtain ⟨o, h1, h2, h⟩ := h
  exact ⟨o, h1, h2, e _ _ h⟩
def rTupF (K : PySem.W.Frag) : List V → Hp → VK → Prop := fun xs H Q => ∃ p ys, xs = [.ref p] ∧ SqL K H p ys ∧ ∀ (l : Addr) (o : Obj), H l = none → o.cls = .type "tuple" → o.dict = none → Q (.ref l) (upd H l (.frz o (.tup ys)))
theorem k_tupF {X : Cx} (K : PySem.W.Frag) (e : X.K = K := by rfl) : CallR X (.type "tuple") (rTupF K) := by
  subst e
  intro pl0 s σ H xs us Q I rel ask
  obtain ⟨p, ys, rfl, hq, q⟩ := ask
  obtain ⟨_, rfl, rx⟩ := vals1 rel
  cases rx
  obtain ⟨its, rv, pl, hz⟩ := id (I.list hq)
  have hn := rv.length
  refine call_tuple_list pl.isList (fun g kp => ?_) (by simp only [List.size_toArray]; omega)
  have I1 : Inv X pl0 σ H { s with heap := g } := I.kept (t' := s.toks) kp
  refine ⟨.ref g.objs.size, upd H g.objs.size (.frz ⟨.type "tuple", none, .seq its.toArray, #[]⟩ (.tup ys)), ?_, rfl, q _ _ (I1.hok.fresh (Nat.le_refl _)) rfl rfl⟩
  refine I1.laid (t' := s.toks) (fun b o e => Heap.get?_push_of_some _ e) (Nat.le_refl _) ?_
  exact ⟨Heap.get?_push_size _ rfl, hz, its, rv, IsTup.new _ _⟩
/-- a tuple's method -/
def tFT (r : V → List V → Hp → VK → Prop) (to : TE) (t : TA) : TE := fun σ H Q => to σ H fun x H1 => (∃ p xs, x = .ref p ∧ FT H1 p xs) ∧ t σ H1 fun vs H2 => r x vs H2 Q
theorem pe_ftm {X : Cx} {o e : Expr} {es : List Expr} {to : TE} {t : TA} {name : Str} {id : String} {r : V → List V → Hp → VK → Prop} {apos cpos : Pos} (pa : PlainAttrs "tuple") (slot : Slot "tuple" name id) (hty : typeOf (.builtin id) = pure (.type "method_descriptor")) (hm : MtR X id r) (ho : PE X o to) (ha : PA X (e :: es) t)
    (base : attributeBase o name X.env (eval o X.env) = eval o X.env := by rfl)
    (few : ((backTo cpos (starEach (e :: es) X.env)).all (fun z => !z.1) && (backToKw cpos (keywordEach [] X.env)).all (fun z => z.1.isSome) && decide ((e :: es).length + ([] : List Keyword).length + (if ([] : List Keyword).isEmpty then 0 else 1) < 30)) = true := by rfl)
    (line : (apos.endLine == cpos.line) = true := by rfl) (star : starEach (e :: es) X.env = (false, eval e X.env) :: starEach es X.env := by rfl) (plain : (backTo cpos (starEach es X.env)).any (·.1) = false := by rfl) :
    PE X (.Call (.Attribute o name apos) (e :: es) [] cpos) (tFT r to t) := by
  constructor
  intro pl s σ H Q I ask
  refine wpAny_Call_method_late base few line rfl (thn (ho.run pl s σ H _ I ask) fun v s1 z => ?_)
  obtain ⟨x, H1, I1, r1, ⟨p, xs, rfl, ob, hc, hd, hp⟩, q1⟩ := z
  cases r1
  have ho := (I1.hok p _ hp).1
  refine ⟨"tuple", id, pa, slot, hty, ⟨ob, ho, hc⟩, fun a ea => ?_, ?_⟩
  · cases ea
    exact ⟨ob, ho, hd⟩
  have args := ha.run cpos pl s1 σ H1 _ I1 q1
  rw [star] at args ⊢
  have none_ : (false || (backTo cpos (starEach es X.env)).any (·.1)) = false := by rw [plain]; rfl
  refine Calls.callWith_builtin none_ (Calls.evalArgs_plain (thn args fun us s2 z => ?_))
  obtain ⟨vs, H2, I2, r2, q2⟩ := z
  exact hm pl s2 σ H2 (.ref p) vs (.ref p) us Q I2 rfl r2 q2
def rTcX (K : PySem.W.Frag) : V → List V → Hp → VK → Prop := fun x xs H Q => ∃ (p : Addr) (ns : List Int) (k : Int), x = .ref p ∧ xs = [.int k] ∧ SqT K H p (ns.map V.int) ∧ Q (.int (ns.count k : Nat)) H
theorem k_tcount {X : Cx} (K : PySem.W.Frag) (e : X.K = K := by rfl) : MtR X "tuple.count" (rTcX K) := by
  subst e
  intro pins s σ H x ys v us Q I rx ry h
  obtain ⟨p, ns, k, rfl, rfl, hq, q⟩ := h
  cases rx
  obtain ⟨u, rfl, t, rfl⟩ := vals1 ry
  obtain ⟨its, rv, ⟨⟨c, dd, dt, sl⟩, ho, hc, n, hd⟩, _⟩ := I.tuple hq
  simp only at hc hd
  subst hc hd
  have hi := ints_of_vals rv
  refine call_meets PySem.F.slot_tuple_count ⟨_, ho, rfl⟩ PySem.F.entry_tuple_count (PySem.F.args_tuple_count_2 _ _)
    (SeqAt.tuple_countAt p its.toArray n dd sl (.int k t) (eqk k)) ⟨ho, fun y hy => (eqk_gives hi y (by simpa using hy)).at _ _, ?_⟩
  have many : its.toArray.toList.countP (eqk k) = ns.count k := eqk_count hi
  exact ⟨.int (ns.count k : Nat), H, I.tok _, ⟨s.toks, by simpa using congrArg (fun z : Nat => Value.int (z : Int) s.toks) many⟩, q⟩
section
variable {K : PySem.W.Frag} {σ : L2.St} {B H : Hp} {M : List (Addr × HO)} {Q : VK} {p : Addr} {xs : List V} {ta : TE}
theorem w_tcount {ns : List Int} {j : Int} (h : SqT K H p (ns.map V.int)) (k : Q (.int (ns.count j : Nat)) H) : rTcX K (.ref p) [.int j] H Q := ⟨p, ns, j, rfl, rfl, h, k⟩
theorem w_tupF (S : Hs B M H) (h : SqL K H p xs) (k : ∀ (q : Addr) (o : Obj) (H' : Hp), o.cls = .type "tuple" → o.dict = none → Hs B ((q, .frz o (.tup xs)) :: M) H' → Q (.ref q) H') : rTupF K [.ref p] H Q :=
  ⟨p, xs, rfl, h, fun l o hl hc hd => k l o _ hc hd (S.new hl _)⟩
def FtmX (r : V → List V → Hp → VK → Prop) (x : V) (t : TA) (σ : L2.St) (H : Hp) (Q : VK) : Prop := (∃ p xs, x = .ref p ∧ FT H p xs) ∧ t σ H fun vs H2 => r x vs H2 Q
theorem w_ftm {r : V → List V → Hp → VK → Prop} {t : TA} (k : ta σ H fun x H1 => FtmX r x t σ H1 Q) : tFT r ta t σ H Q := k
theorem w_ftmE {r : V → List V → Hp → VK → Prop} {t : TA} (h : FT H p xs) (k : t σ H fun vs H2 => r (.ref p) vs H2 Q) : FtmX r (.ref p) t σ H Q := ⟨⟨p, xs, rfl, h⟩, k⟩
end
end Rw

namespace Rw
open PySem PySem.Spec PyProof.Rows L2
section
variable {B B' H : Hp} {M : List (Addr × HO)} {a : Addr} {o : HO}
/-- what was new and shut is opened again: the still part is what it was ahead -/
theorem Hs.thaw (S : Hs B' M H) (e : Same B B') (h : B a = none) (h2 : B' a = some o) : Hs B ((a, o) :: M) H := by
  refine ⟨e.trans S.ex, fun c hc => ?_, List.nodup_cons.mpr ⟨fun hm => ?_, S.nd⟩⟩
  · rcases List.mem_cons.mp hc with q | q
    · subst q
      exact ⟨h, S.ex _ _ h2⟩
    · exact ⟨e.free (S.cel c q).1, (S.cel c q).2⟩
  · obtain ⟨c, hc, q⟩ := List.mem_map.mp hm
    have := (S.cel c hc).1
    rw [show c.1 = a from q, h2] at this
    cases this
theorem look1 {α : Type} {f : Str} {v : α} : [(f, v)].lookup f = some v := by simp [List.lookup]
theorem look1n {α : Type} {f g : Str} {v : α} (h : ¬ g = f) : [(f, v)].lookup g = none := by
  have hb : (g == f) = false := beq_eq_false_iff_ne.mpr h
  simp [List.lookup, hb]
end
end Rw

namespace Rw
open PySem PySem.Spec PyProof.Rows L2
section
variable {K : PySem.W.Frag} {σ : L2.St} {H : Hp} {Q : VK} {B : Hp} {M : List (Addr × HO)} {te : TE}
/-- over a tuple that stands in B, its object known -/
theorem lc_F {a : Addr} {ys : List V} {g : TG} {tt : TT} {vs : List Nat} (S : Hs B M H) (hx : FT B a ys) (Pv : Nat → Hp → List V → Prop) (h0 : Pv 0 B [])
    (hs : ∀ (i : Nat) (x : V) (E : Addr) (B' : Hp) (acc : List V) (H' : Hp), ys[i]? = some x → acc.length ≤ i → Same B B' → Hs B' ((E, .lst acc) :: M) H' → Pv i B' acc → g x (wipe σ vs) H' fun σ2 H2 => wipe σ2 vs = wipe σ vs ∧ tt σ2 H2 fun b H3 =>
      if b = true then te σ2 H3 fun y H4 => LcP B M Pv (i + 1) E y H4 else LcN B M Pv (i + 1) E H3)
    (hd : ∀ (E : Addr) (B' : Hp) (acc : List V) (H' : Hp), Same B B' → Hs B' ((E, .lst acc) :: M) H' → acc.length ≤ ys.length → Pv ys.length B' acc → Q (.ref E) H') : LcJ (Itt K a) g tt te vs σ H Q :=
  lc_by (walk_tup (K := K) (a := a) (xs := ys)) S Pv h0 (fun B' H' e S' => ((hx.mono e).mono S'.ex).sq) (fun i x E B' acc H' H'' _ hl e S' pv y => by
    obtain ⟨rfl, hx⟩ := y
    exact hs i x E B' acc _ hx hl e S' pv) hd
end
end Rw

namespace Rw
open PySem PySem.Spec PyProof.Rows L2
section
variable {K : PySem.W.Frag} {σ : L2.St} {H : Hp} {Q : VK} {B : Hp} {M : List (Addr × HO)} {ta tb : TE}
/-- list(range(n)), list(range(a, b)) -/
def rangeI (n : Nat) : List Int := (List.range n).map fun i : Nat => (i : Int)
theorem rgV_0 (n : Int) : rgV 0 n = (rangeI n.toNat).map V.int := by
  unfold rgV rangeI
  rw [List.map_map, Int.sub_zero]
  refine List.map_congr_left fun i _ => ?_
  show V.int (0 + (i : Int)) = V.int (i : Int)
  rw [Int.zero_add]
def LRgX (a b : Int) (H : Hp) (Q : VK) : Prop := RgOk a b ∧ ∀ q, H q = none → Q (.ref q) (upd H q (.lst (rgV a b)))
theorem w_lrg {te : L2.St → Hp → (Int → Int → Hp → Prop) → Prop} (k : te σ H fun a b H1 => LRgX a b H1 Q) : tLstRg te σ H Q := k
def Rg1X (x : V) (H : Hp) (R : Int → Int → Hp → Prop) : Prop := ∃ n, x = .int n ∧ R 0 n H
theorem w_rg1 {R : Int → Int → Hp → Prop} (k : ta σ H fun x H1 => Rg1X x H1 R) : tRg1 ta σ H R := k
theorem w_rg1E {n : Int} {R : Int → Int → Hp → Prop} (k : R 0 n H) : Rg1X (.int n) H R := ⟨n, rfl, k⟩
theorem w_lrgE {n : Int} (S : Hs B M H) (h0 : 0 ≤ n) (h1 : n ≤ 1000) (k : ∀ q H', Hs B ((q, .lst ((rangeI n.toNat).map V.int)) :: M) H' → Q (.ref q) H') : LRgX 0 n H Q :=
  ⟨.of_le (by omega) (by omega) (by omega) h0, fun q hq => by rw [rgV_0]; exact k q _ (S.new hq _)⟩
theorem rangeI_len (n : Nat) : (rangeI n).length = n := by unfold rangeI; simp
theorem rangeI_get {n i : Nat} (h : i < n) : (rangeI n)[i]? = some (i : Int) := by unfold rangeI; simp [h]
theorem mem_rangeI {n : Nat} {x : Int} : x ∈ rangeI n ↔ 0 ≤ x ∧ x < (n : Int) := by
  unfold rangeI
  rw [List.mem_map]
  constructor
  · rintro ⟨i, hi, rfl⟩
    have := List.mem_range.mp hi
    omega
  · rintro ⟨h0, h1⟩
    exact ⟨x.toNat, List.mem_range.mpr (by omega), by omega⟩
theorem rangeI_up (n : Nat) : (rangeI n).Pairwise (· < ·) := by
  unfold rangeI
  refine List.Pairwise.map _ (fun a b h => ?_) List.pairwise_lt_range
  omega
/-- two rising lists of the same numbers are one -/
theorem up_eq : ∀ {xs ys : List Int}, xs.Pairwise (· < ·) → ys.Pairwise (· < ·) → (∀ x, x ∈ xs ↔ x ∈ ys) → xs = ys
  | [], [], _, _, _ => rfl
  | [], y :: ys, _, _, h => by have := (h y).mpr List.mem_cons_self; simp at this
  | x :: xs, [], _, _, h => by have := (h x).mp List.mem_cons_self; simp at this
  | x :: xs, y :: ys, hx, hy, h => by
    obtain ⟨hx1, hx2⟩ := List.pairwise_cons.mp hx
    obtain ⟨hy1, hy2⟩ := List.pairwise_cons.mp hy
    have e : x = y := by
      rcases List.mem_cons.mp ((h x).mp List.mem_cons_self) with e | hm
      · exact e
      · rcases List.mem_cons.mp ((h y).mpr List.mem_cons_self) with e | hm2
        · exact e.symm
        · have a := hy1 x hm
          have b := hx1 y hm2
          omega
    subst e
    rw [up_eq hx2 hy2 fun z => ?_]
    constructor
    · intro hz
      rcases List.mem_cons.mp ((h z).mp (List.mem_cons_of_mem _ hz)) with e | hm
      · have := hx1 z hz; omega
      · exact hm
    · intro hz
      rcases List.mem_cons.mp ((h z).mpr (List.mem_cons_of_mem _ hz)) with e | hm
      · have := hy1 z hz; omega
      · exact hm
/-! ### == of lists of ints -/
def dI (xs : List Int) : PyData := .list (xs.map .int)
theorem dpAll_ints {K : PySem.W.Frag} {H : Hp} : ∀ xs : List Int, DpAll K H (xs.map V.int) (xs.map PyData.int)
  | [] => .nil
  | x :: xs => .cons (.int x) (dpAll_ints xs)
theorem dp_ints {K : PySem.W.Frag} {H : Hp} {p : Addr} {xs : List Int} (h : H p = some (.lst (xs.map V.int))) : Dp K H (.ref p) (dI xs) := .lst (sqL_of h) (dpAll_ints xs)
def dLL (rows : List (List Int)) : PyData := .list (rows.map dI)
theorem dpAll_rows {K : PySem.W.Frag} {H : Hp} : ∀ {as : List Addr} {rows : List (List Int)}, LR H as rows → DpAll K H (as.map V.ref) (rows.map dI)
  | _, _, .nil => .nil
  | _, _, .cons r t => .cons (dp_ints r) (dpAll_rows t)
theorem dp_rows {K : PySem.W.Frag} {H : Hp} {p : Addr} {rows : List (List Int)} (h : LL H p rows) : Dp K H (.ref p) (dLL rows) := by
  obtain ⟨as, h1, h2⟩ := h
  exact .lst (sqL_of h1) (dpAll_rows h2)
end
end Rw

namespace Rw
open PySem PySem.Spec PyProof.Rows L2
/-! ### the form of data, == of data -/
structure Shp (n : Nat) (d : PyData) : Prop where
  lay : PyData.canLay0 d = true
  dep : PyData.depth d ≤ n
theorem shp_all {n : Nat} : ∀ {ds : List PyData}, (∀ d ∈ ds, Shp n d) → PyData.canLayAll0 ds = true ∧ PyData.depthAll ds ≤ n
  | [], _ => ⟨by simp [PyData.canLayAll0], by simp [PyData.depthAll]⟩
  | d :: ds, h => by
    obtain ⟨h1, h2⟩ := shp_all (ds := ds) fun x hx => h x (List.mem_cons_of_mem _ hx)
    have h3 := h d List.mem_cons_self
    refine ⟨?_, ?_⟩
    · simp only [PyData.canLayAll0, Bool.and_eq_true]
      exact ⟨h3.lay, h1⟩
    · simp only [PyData.depthAll]
      exact Nat.max_le.mpr ⟨h3.dep, h2⟩
theorem shp_list {n : Nat} {ds : List PyData} (h : ∀ d ∈ ds, Shp n d) : Shp (n + 1) (.list ds) := by
  obtain ⟨h1, h2⟩ := shp_all h
  exact ⟨by simp only [PyData.canLay0]; exact h1, by simp only [PyData.depth]; omega⟩
theorem shp_tup {n : Nat} {ds : List PyData} (h : ∀ d ∈ ds, Shp n d) : Shp (n + 1) (.tuple ds) := by
  obtain ⟨h1, h2⟩ := shp_all h
  exact ⟨by simp only [PyData.canLay0]; exact h1, by simp only [PyData.depth]; omega⟩
theorem shp_int (i : Int) : Shp 0 (.int i) := ⟨by simp only [PyData.canLay0], by simp [PyData.depth]⟩
theorem Shp.mono {n m : Nat} {d : PyData} (h : Shp n d) (e : n ≤ m) : Shp m d := ⟨h.lay, Nat.le_trans h.dep e⟩
theorem Shp.shaped {n : Nat} {d : PyData} (h : Shp n d) (e : n ≤ 64 := by decide) : SeqAt.shaped d = true := by
  unfold SeqAt.shaped
  rw [Bool.and_eq_true]
  exact ⟨h.lay, decide_eq_true (Nat.le_trans h.dep e)⟩
theorem shp_dI (xs : List Int) : Shp 1 (dI xs) := shp_list fun d hd => by
  obtain ⟨i, _, rfl⟩ := List.mem_map.mp hd
  exact shp_int i
theorem shp_dLL (rows : List (List Int)) : Shp 2 (dLL rows) := shp_list fun d hd => by
  obtain ⟨i, _, rfl⟩ := List.mem_map.mp hd
  exact shp_dI i
theorem eqvAll_ints : ∀ xs ys : List Int, PyData.eqvAll (xs.map .int) (ys.map .int) = decide (xs = ys)
  | [], [] => by simp [PyData.eqvAll]
  | [], y :: ys => by simp [PyData.eqvAll]
  | x :: xs, [] => by simp [PyData.eqvAll]
  | x :: xs, y :: ys => by
    rw [List.map_cons, List.map_cons]
    simp only [PyData.eqvAll, PyData.eqv]
    rw [eqvAll_ints xs ys, Bool.eq_iff_iff]
    simp
theorem eqv_dI (xs ys : List Int) : PyData.eqv (dI xs) (dI ys) = decide (xs = ys) := by
  unfold dI
  simp only [PyData.eqv]
  exact eqvAll_ints xs ys
theorem eqvAll_rows : ∀ xs ys : List (List Int), PyData.eqvAll (xs.map dI) (ys.map dI) = decide (xs = ys)
  | [], [] => by simp [PyData.eqvAll]
  | [], y :: ys => by simp [PyData.eqvAll]
  | x :: xs, [] => by simp [PyData.eqvAll]
  | x :: xs, y :: ys => by
    rw [List.map_cons, List.map_cons]
    simp only [PyData.eqvAll]
    rw [eqv_dI, eqvAll_rows xs ys, Bool.eq_iff_iff]
    simp
theorem eqv_dLL (xs ys : List (List Int)) : PyData.eqv (dLL xs) (dLL ys) = decide (xs = ys) := by
  unfold dLL
  simp only [PyData.eqv]
  exact eqvAll_rows xs ys
section
variable {K : PySem.W.Frag} {H : Hp} {Q : VK} {p q : Addr}
theorem w_eqI {xs ys : List Int} (h : H p = some (.lst (xs.map V.int))) (h2 : H q = some (.lst (ys.map V.int))) (k : Q (.bl (decide (xs = ys))) H) : rEqD K (.ref p) (.ref q) H Q :=
  w_eqD (dp_ints h) (dp_ints h2) (shp_dI _).shaped (shp_dI _).shaped (by rw [eqv_dI]; exact k)
theorem w_neI {xs ys : List Int} (h : H p = some (.lst (xs.map V.int))) (h2 : H q = some (.lst (ys.map V.int))) (k : Q (.bl (!decide (xs = ys))) H) : rNeD K (.ref p) (.ref q) H Q :=
  w_neD (dp_ints h) (dp_ints h2) (shp_dI _).shaped (shp_dI _).shaped (by rw [eqv_dI]; exact k)
theorem w_neLL {xs ys : List (List Int)} (h : LL H p xs) (h2 : LL H q ys) (k : Q (.bl (!decide (xs = ys))) H) : rNeD K (.ref p) (.ref q) H Q :=
  w_neD (dp_rows h) (dp_rows h2) (shp_dLL _).shaped (shp_dLL _).shaped (by rw [eqv_dLL]; exact k)
/-- isinstance of what is known -/
theorem w_isiI {i : Int} {n : String} {b : Bool} (e : kitB "int" n = some b) (k : Q (.bl b) H) : rIsi K [.int i, .ty n] H Q := w_isi (.ty n) (.base (.int i)) (kit_ty e) k
theorem w_isiB {c : Bool} {n : String} {b : Bool} (e : kitB "bool" n = some b) (k : Q (.bl b) H) : rIsi K [.bl c, .ty n] H Q := w_isi (.ty n) (.base (.bl c)) (kit_ty e) k
theorem w_isiL {xs : List V} {n : String} {b : Bool} (h : H p = some (.lst xs)) (e : kitB "list" n = some b) (k : Q (.bl b) H) : rIsi K [.ref p, .ty n] H Q := w_isi (.ty n) (.base (.lst h)) (kit_ty e) k
end
end Rw

namespace Rw
open PySem PySem.Spec PyProof.Rows L2
/-! ### set(xs) of a list of ints -/
abbrev freshSet (w : World) : Obj :=
  { cls := .type "set", dict := none, data := .set #[] 0 (.fresh 0 0 (!w.params.followText "set-order")) }
abbrev SetBack (w : World) (st : Shared) (ns : List Int) (r : Value) (s2 : Shared) : Prop :=
  r = .none ∧ ∃ (g : Heap) (tk c : Nat), s2 = { st with heap := g, toks := tk } ∧
    SetR w g st.heap.objs.size (fun j => decide (j ∈ ns)) c ∧ c ≤ ns.length ∧
    ∀ b o, st.heap.get? b = some o → g.get? b = some o
section
variable {P : Program} {w : World} {A : Around} {E : Value → Shared → Prop} {st : Shared}
set_option maxRecDepth 100000 in
set_option maxHeartbeats 3200000 in
theorem set_of_list {l : Addr} {its : Array Value} (ns : List Int) {Q : Value → Shared → Prop} (hh : A.handled = none) (hl : st.heap.IsList l its)
    (hit : IntsAre its.toList ns) (hb : ns.length + 1 < scanBound)
    (fin : ∀ (g : Heap) (tk c : Nat), SetR w g st.heap.objs.size (fun j => decide (j ∈ ns)) c → c ≤ ns.length →
      (∀ b o, st.heap.get? b = some o → g.get? b = some o) → Q (.ref st.heap.objs.size) { st with heap := g, toks := tk }) :
    wpAny (model P w) A (call (.type "set") [.ref l]) Q E st := by
  have hsz : its.size = ns.length := by
    have z := IntsAre.length hit
    rwa [Array.length_toList] at z
  obtain ⟨c0, t0, hm0⟩ := F.called_set.mro
  have q1 := F.called_set.made
  have q2 := F.called_set.sub
  refine wpAny_call (codeAny_of_tree ?_)
  show wpAny _ _
    (callAny (.type "set") _) _ _ _
  refine wpAny_pure ⟨Code.quiet_builtin _ (by decide +kernel),
    codeAny_builtin F.entry_type_call ?_⟩
  rw [Around.under_plain
    (weight_type_call_type "set" [.ref l] []) rfl]
  have q3 := F.called_set.notType
  have q4 := F.called_set.canCreate
  have q5 := F.typeCall_set_1 (.ref l)
  repeat (any_goals (first
    | assumption
    | wp_step))
  refine codeAny_mono (code_set_led1 (.ref l) (E := E)
    (Q₁ := fun ob s1 => ob = .ref st.heap.objs.size ∧ s1 = { st with heap := st.heap.push (freshSet w) })
    ⟨rfl, rfl⟩) fun r s1 hr => ?_
  cases r with
  | error e => exact hr
  | ok fl =>
    cases fl with
    | ret ob =>
      obtain ⟨rfl, rfl⟩ := hr
      have hS : (st.heap.push (freshSet w)).get? st.heap.objs.size = some (freshSet w) := Heap.get?_push_size _ rfl
      have hT : Shared.TypeIs { st with heap := st.heap.push (freshSet w) } (.ref st.heap.objs.size) "set" := ⟨_, hS, rfl⟩
      have q6 := F.called_set.init.lookup
      have q7 := F.called_set.init.bind (.ref st.heap.objs.size)
      repeat (any_goals (first
        | assumption
        | wp_step))
      refine codeAny_mono (codeAny_call_builtin (R := wants (SetBack w st ns) E)
        F.called_set.init.plain F.entry_set_init (check_set_init_1 hT ?_)) fun r2 s2 hr2 => ?_
      · obtain ⟨⟨oc, od, odt, osl⟩, hol, hcl, nl, hdl⟩ := hl
        simp only at hcl hdl
        subst hcl
        subst hdl
        have hol2 := Heap.get?_push_of_some (freshSet w) hol
        have u1 := F.sub_list_set
        have u2 := F.sub_list_frozenset
        have u3 : (Value.type "list" == Value.type "dict") = false := by decide
        have hl1 : (st.heap.push (freshSet w)).IsList l its := ⟨_, hol2, rfl, nl, rfl⟩
        unfold Builtin.«set.__init__» noKeywords Builtin.Frozenset.updateFrom
        generalize hI : pyIter = it0
        wp_walk
        subst hI
        refine wpAny_pyIter_list hl1 (wpAny_bind (wpAny_runValue ?_))
        have hlt : l < st.heap.objs.size := Heap.lt_size hol
        have hh3 : A.in1.in1.in1.handled = none := by simp [hh]
        have ps : (st.heap.push (freshSet w)).objs.size = st.heap.objs.size + 1 := Heap.size_push ..
        have n1 : l ≠ (st.heap.push (freshSet w)).objs.size := by
          rw [ps]
          exact Nat.ne_of_lt (Nat.lt_succ_of_lt hlt)
        have n2 : st.heap.objs.size ∉ [(st.heap.push (freshSet w)).objs.size, l] := by
          rw [ps]
          simp only [List.mem_cons, List.not_mem_nil, or_false, not_or]
          exact ⟨Nat.ne_of_lt (Nat.lt_succ_self _), Nat.ne_of_gt hlt⟩
        have val : ∀ (i : Nat) (v : Value), its[i]? = some v → ∃ k t, ns[i]? = some k ∧ v = .int k t := by
          intro i v hv
          have hi : i < ns.length := by
            rw [← hsz]
            exact (Array.getElem?_eq_some_iff.mp hv).1
          obtain ⟨t, e⟩ := IntsAre.int_at hit i v (by rw [Array.getElem?_toList]; exact hv)
          refine ⟨ns[i], t, List.getElem?_eq_getElem hi, ?_⟩
          rw [e, List.getD_eq_getElem?_getD, List.getElem?_eq_getElem hi]
          rfl
        refine set_update_ints ((Walks.list hh3 _ l n1 its).toS) st.heap.objs.size n2 ns hsz hb val (its.size - 0) 0 _
          (by omega) (Nat.zero_le _) ⟨⟨_, Heap.get?_push_size _ rfl, rfl, rfl⟩, hl1.push _⟩ ?z0 ?z1
        case z0 => exact ⟨0, Nat.le_refl 0, setR_new_at (Heap.get?_push_of_some _ hS)⟩
        case z1 =>
          rintro ⟨g, gs, dr, tk, os⟩ c hm hc hR
          have e1 : gs = st.gens := hm.gens
          have e2 : dr = st.drawn := hm.drawn
          have e3 : os = st.os := hm.os
          subst e1
          subst e2
          subst e3
          show wpAny _ _
            _ _ _ _
          refine wpAny_pure ?_
          show wpAny _ _
            (ret Value.none) _ _ _
          rw [hsz] at hc
          refine wpAny_pure ⟨rfl, g, tk, c, rfl, hR, hc, fun b o e => ?_⟩
          have b0 : b < st.heap.objs.size := Heap.lt_size e
          have b1 : b ≠ (st.heap.push (freshSet w)).objs.size := by
            rw [ps]
            exact Nat.ne_of_lt (Nat.lt_succ_of_lt b0)
          refine hm.heap b o ?_ (Heap.get?_push_of_some _ (Heap.get?_push_of_some _ e))
          simp only [List.mem_cons, List.not_mem_nil, or_false, not_or]
          exact ⟨Nat.ne_of_lt b0, b1⟩
      · cases r2 with
        | error e => exact hr2
        | ok f2 =>
          cases f2 with
          | ret r =>
            obtain ⟨rfl, g, tk, c, rfl, hR, hc, hk⟩ := hr2
            repeat (any_goals (first
              | assumption
              | wp_step))
            exact fin _ _ _ hR hc hk
          | _ => exact hr2.elim
    | _ => exact hr.elim
end
def rSetI (K : PySem.W.Frag) (w : World) : List V → Hp → VK → Prop := fun xs H Q => ∃ (p : Addr) (ns : List Int), xs = [.ref p] ∧ SqL K H p (ns.map V.int) ∧ ns.length ≤ 1000 ∧
  ∀ (a : Addr) (n : Nat), H a = none → n ≤ ns.length → Q (.ref a) (upd H a (SetO w a (fun j => decide (j ∈ ns)) n))
theorem k_setI {X : Cx} (K : PySem.W.Frag) (w : World) (hc : X.calm = true) (e : X.K = K := by rfl) (ew : X.w = w := by rfl) : CallR X (.type "set") (rSetI K w) := by
  subst e
  subst ew
  intro pins s σ H xs us Q I r h
  obtain ⟨p, ns, rfl, hq, hn, q⟩ := h
  obtain ⟨its, rv, pl, hz⟩ := I.list hq
  rw [Vals.ref1 r]
  refine set_of_list ns (I.ok.hd hc) pl.isList (by simpa using rv.ints) (by unfold scanBound; omega) fun g tk c hR hcn hk => ?_
  have fr := I.hok.fresh (Nat.le_refl s.heap.objs.size)
  exact ⟨.ref _, _, I.laid (t' := tk) hk (Nat.le_refl _) (setO_new hR), rfl, q _ c fr hcn⟩
theorem k_sortSet {X : Cx} (w : World) (hc : X.calm = true) (ew : X.w = w := by rfl) : CallR X (.builtin "sorted") (rSortedSet w) := by
  subst ew
  exact cr_sortedSet hc
section
variable {K : PySem.W.Frag} {w : World} {B H : Hp} {M : List (Addr × HO)} {Q : VK} {p : Addr}
theorem w_setI {ns : List Int} (S : Hs B M H) (h : SqL K H p (ns.map V.int)) (hn : ns.length ≤ 1000) (k : ∀ (a : Addr) (n : Nat) (H' : Hp), n ≤ ns.length → Hs B ((a, SetO w a (fun j => decide (j ∈ ns)) n) :: M) H' → Q (.ref a) H') : rSetI K w [.ref p] H Q :=
  ⟨p, ns, rfl, h, hn, fun a n ha hl => k a n _ hl (S.new ha _)⟩
theorem w_sortSet {T : Int → Bool} {n : Nat} (S : Hs B M H) (h : H p = some (SetO w p T n)) (hn : n < 64) (k : ∀ (ns : List Int) (a : Addr) (H' : Hp), ns.Pairwise (· < ·) → (∀ x, x ∈ ns ↔ T x = true) → Hs B ((a, .lst (ns.map V.int)) :: M) H' → Q (.ref a) H') : rSortedSet w [.ref p] H Q :=
  ⟨p, T, n, rfl, h, hn, fun ns a h1 h2 _ ha => k ns a _ h1 h2 (S.new ha _)⟩
end
end Rw

/-! Rw: a caught exception that is kept behind its suite; isinstance and a field of it. -/
namespace Rw
open PySem PySem.Spec PyProof.Rows L2

/-- an error's object that is known of: its class, its dict -/
def ExK (cls : Value) (d : Option Addr) (a : Addr) : HO := .ext fun hp => ∃ (ob : Obj) (fl : Array Value), hp.get? a = some ob ∧ Zc cls d ob ∧ ob.data = .fields fl
section
variable {X : Cx} {pl : List (Addr × Obj)} {sl : L2.St} {H : Hp} {st : Shared} {a : Addr}
theorem exK_ok {P : Program} {w : World} {hp : Heap} {cls : Value} {d : Option Addr} {ob : Obj} {fl : Array Value} (e : hp.get? a = some ob) (z : Zc cls d ob) (hd : ob.data = .fields fl) : ObjOk P w H hp a (ExK cls d a) := by
  refine ⟨⟨ob, fl, e, z, hd⟩, ⟨ob, e⟩, fun _ _ hx st => ?_⟩
  obtain ⟨ob', fl', e', z', hd'⟩ := hx
  exact ⟨ob', fl', st ob' e', z', hd'⟩
/-- what was not there at the entry, and is no frame, cell or pin, may be tracked -/
theorem _root_.L2.Inv.track {o : HO} (I : Inv X pl sl H st) (no : H a = none) (new0 : X.s_0.heap.get? a = none) (noL : a ≠ X.env.locals) (noC : ∀ y c, X.env.cells.lookup y = some c → c ≠ a) (noP : ∀ p ∈ X.pn ++ pl, p.1 ≠ a) (is : ObjOk X.prog X.w (upd H a o) st.heap a o) : Inv X pl sl (upd H a o) st := by
  have up : ∀ {b u}, H b = some u → upd H a o b = some u := fun {b u} e => (upd_ne (ne_of_none e no)).trans e
  have off : ∀ {b}, b ≠ a → H b = none → upd H a o b = none := fun {b} n e => (upd_ne n).trans e
  have U := I.base
  constructor
  · exact I.ok
  · exact I.os
  · exact I.bare
  · constructor
    · exact U.keep
    · exact U.slot
    · intro b ob hb n x
      refine off (fun z => ?_) (U.free b ob hb n x)
      rw [z, new0] at hb
      cases hb
    · exact U.there
    · exact fun b xs hb => up (U.tups b xs hb)
    · exact fun b ob u hb => up (U.frzs b ob u hb)
    · intro b ps hb
      obtain ⟨more, z⟩ := U.tbls b ps hb
      exact ⟨more, up z⟩
  · exact I.loc
  · exact I.cell
  · exact off noL.symm I.free
  · exact fun y c hc => off (noC y c hc) (I.freeC y c hc)
  · intro p hp
    have z := I.pin p hp
    exact ⟨z.1, off (noP p hp) z.2.1, z.2.2⟩
  · intro b u hb
    by_cases eb : b = a
    · subst eb
      cases upd_same.symm.trans hb
      exact is
    · refine (I.hok b u ((upd_ne eb).symm.trans hb)).stay (fun _ _ _ z => z) (fun _ z => up z) fun _ _ z => up z
  · exact I.len
/-- into a suite, nothing pinned besides, and out of it -/
theorem toSuite (I : Inv X pl sl H st) (a : Addr) : Inv (X.suite a (X.pn ++ pl)) [] sl H st := by
  obtain ⟨i1, i2, i3, i4, i5, i6, i7, i8, i9, i10, i11⟩ := I
  exact ⟨i1.suite _ _, i2, i3, i4, i5, i6, i7, i8, by simpa using i9, i10, i11⟩
theorem ofSuite {more : List (Addr × Obj)} (ok : X.Ok) (I : Inv (X.suite a (X.pn ++ pl)) more sl H st) : Inv X pl sl H st := by
  obtain ⟨_, i2, i3, i4, i5, i6, i7, i8, i9, i10, i11⟩ := I
  exact ⟨ok, i2, i3, i4, i5, i6, i7, i8, fun p hp => i9 p (List.mem_append.mpr (.inl hp)), i10, i11⟩
end

/-! ### an error that has come down to a try -/
/-- the error a flies over the heap hp; su: the state without it, sv: the one with it -/
structure Down (X : Cx) (pl : List (Addr × Obj)) (sl : L2.St) (H : Hp) (B : Heap) (a : Addr) (cls : Value) (d : Option Addr) (su sv : Shared) (hp : Heap) : Prop where
  inv : Inv X pl sl H su
  old : ∀ b o, su.heap.get? b = some o → b ∉ frs X.stack → B.get? b = some o
  way : su.heap.UpToSlots hp
  os : sv.os = su.os
  bare : AllBare sv.gens
  fly : HandSPX.FlyingZ B (X.env :: X.outer) a (Zc cls d) hp
  out : H a = none
namespace Down
variable {X : Cx} {pl : List (Addr × Obj)} {sl : L2.St} {H : Hp} {B hp : Heap} {a : Addr} {cls : Value} {d : Option Addr} {su sv : Shared} (D : Down X pl sl H B a cls d su sv hp)
include D
theorem now : Inv X pl sl H { sv with heap := hp } := Inv.landed (s' := { sv with heap := hp }) D.inv D.old D.fly.1 D.way D.os D.bare
theorem nofr : a ∉ frs (X.env :: X.outer) := by
  obtain ⟨ob, fl, e1, _, e2⟩ := D.fly.there
  intro hm
  obtain ⟨_, ob', e3, hno⟩ := D.fly.2.2.1.mem hm
  cases e1.symm.trans e3
  exact hno _ e2
theorem noL (hf : X.env.frame = some X.env.locals) : a ≠ X.env.locals := fun z => D.nofr (by
  rw [z]
  exact List.mem_filterMap.mpr ⟨X.env, List.mem_cons_self, hf⟩)
theorem noF : a ∉ X.fs := by
  intro hm
  obtain ⟨en, he, z⟩ := List.mem_filterMap.mp hm
  exact D.nofr (List.mem_filterMap.mpr ⟨en, .tail _ he, z⟩)
/-- it was not there before it was raised -/
theorem new (hs : X.stack = X.env :: X.outer) : su.heap.get? a = none := by
  match e : su.heap.get? a with
  | none => rfl
  | some o => exact nomatch (D.old a o e (hs ▸ D.nofr)).symm.trans D.fly.2.1
theorem new0 (hx : X.ex = []) (hs : X.stack = X.env :: X.outer) : X.s_0.heap.get? a = none := by
  match e : X.s_0.heap.get? a with
  | none => rfl
  | some o =>
    obtain ⟨o', z⟩ := D.inv.base.there a o e (by simp [hx])
    exact nomatch z.symm.trans (D.new hs)
/-- tracked, within the suite -/
theorem inSuite (hx : X.ex = []) (hs : X.stack = X.env :: X.outer) (hf : X.env.frame = some X.env.locals) : Inv (X.suite a (X.pn ++ pl)) [] sl (upd H a (ExK cls d a)) { sv with heap := hp } := by
  obtain ⟨ob, fl, e1, e2, e3⟩ := D.fly.there
  have none_ := D.new hs
  refine toSuite (D.now.track D.out (D.new0 hx hs) (D.noL hf) (fun y c hc z => ?_) (fun p hp' z => ?_) (exK_ok e1 e2 e3)) a
  · obtain ⟨_, o, ho, _⟩ := D.inv.cell y c hc
    rw [z] at ho
    exact nomatch ho.symm.trans none_
  · have ho := (D.inv.pin p hp').1
    rw [z] at ho
    exact nomatch ho.symm.trans none_
/-- the clause's class is read, and asked whether it is the error's -/
theorem asks {x : Str} {c : Value} {np : Pos} {t : Bool} (hf : X.env.frame = some X.env.locals) (hc : Names X x c) (m : PySem.W.exmOne X.K cls c = some t) {Q E : Value → Shared → Prop} (q : Q c { sv with heap := hp }) :
    wpAny (model X.prog X.w) (X.A.mark (some (.ref a))) (eval (.Name x np) X.env) Q E { sv with heap := hp } := by
  obtain ⟨ob, fl, e1, _, e3⟩ := D.fly.there
  have S := D.now.suite e1 e3 D.out (D.noL hf) D.noF
  rcases hc with ⟨h1, h2, h3 | ⟨h3, h4, h5⟩⟩
  · exact ld_glob (X := X.suite a _) S h1 h3 q h2
  · exact ld_blt (X := X.suite a _) S h1 h3 h4 q h5 h2
theorem looks {c : Value} {t : Bool} (m : PySem.W.exmOne X.K cls c = some t) : PySem.W.Looks (model X.prog X.w) hp (excMatches (.ref a) c) t := by
  obtain ⟨ob, fl, e1, e2, _⟩ := D.fly.there
  exact PySem.W.exm_one D.now.kIn (fun _ _ _ _ k r => wpAny_typeOf_ref (k a ob e1) (by rw [e2.1]; exact r)) m
end Down

/-- what the clause 'except x as n' wishes of an error of the body: slot i is n's; the error is tracked from then on -/
def wAsT (K : PySem.W.Frag) (c : Value) (i : Nat) (ts : Addr → TS) (Wout : WX) (En : Ends) : WX := fun cls d sl H =>
  ∃ t, PySem.W.exmOne K cls c = some t ∧ (t = false → Wout cls d sl H) ∧ (t = true → ∀ a, H a = none → ts a ⟨fun s1 H1 => En.nx (s1.set i none) H1, En.rt, fun s1 H1 => En.bk (s1.set i none) H1, fun s1 H1 => En.ct (s1.set i none) H1⟩ (sl.set i (some (.ref a))) (upd H a (ExK cls d a)))
section
variable {X : Cx} {x n : Str} {c : Value} {i : Nat} {body suite : List Stmt} {b₀ : Stmt} {np pos pos' : Pos} {tb : WX → TS} {ts : Addr → TS} {Wout : WX}
theorem ps_try_asT (hx : X.ex = []) (hs : X.stack = X.env :: X.outer) (hf : X.env.frame = some X.env.locals) (hN : X.N.Nodup) (hi : X.N[i]? = some n) (hln : X.env.kindOf n = some .local) (hc : Names X x c) (tk : Takes X Wout)
    (hb : ∀ W pn xe, Takes (X.tr pn xe) W → PassesOwn (model X.prog X.w) X.A X.env xe → PSs (X.tr pn xe) body (tb W)) (hsu : ∀ a pn, PSs (X.suite a pn) (b₀ :: suite) (ts a)) :
    PS X (.Try body [.ExceptHandler (some (.Name x np)) (some n) (b₀ :: suite) pos'] [] [] pos) (fun En sl H => tb (wAsT X.K c i ts Wout En) En sl H) := by
  constructor
  intro pl st sl H En I0 q0
  have okX := I0.ok
  apply wpAny_Try_except
  apply wpAny_mono ((hb (wAsT X.K c i ts Wout En) (X.pn ++ pl) _ ?tk PassesOwn.looking).run [] st sl H En (I0.toTry _) q0) ?fine ?same
  case same => exact fun _ _ z => z
  case fine =>
    intro fl s1 z
    cases fl with
    | next => exact wpAny_execs_nil (let ⟨s2, H2, J, r⟩ := z; ⟨s2, H2, J.ofTry okX, r⟩)
    | ret u => exact let ⟨v, s2, H2, J, r, k⟩ := z; ⟨v, s2, H2, J.ofTry okX, r, k⟩
    | brk => exact let ⟨s2, H2, J, r⟩ := z; ⟨s2, H2, J.ofTry okX, r⟩
    | cont => exact let ⟨s2, H2, J, r⟩ := z; ⟨s2, H2, J.ofTry okX, r⟩
  case tk =>
    rintro _ sv ⟨a, B, su, pl', s0, H0, cls, d, rfl, J, old, way, sky, out, hos, bare, t, ht, no, yes⟩
    have J := J.ofTry okX
    refine Sky.land Zc.steady (hs ▸ okX.frames) hf (hs ▸ sky) fun h1 fly1 way1 => ?_
    have D1 : Down X pl s0 H0 B a cls d su sv h1 := ⟨J, old, way.trans way1, hos, bare, fly1, out⟩
    refine wpAny_handleBy_cons (codeAny_handlers_test (D1.asks hf hc ht ((D1.looks ht).here ?_))) (fun z => nomatch z)
    cases t with
    | false =>
      obtain ⟨_, _, _, ob, fs, tr, _, _, e1, _, e2, e3, _⟩ := id D1.fly
      have leave : wpAny (model X.prog X.w) X.A (setFlight (.ref a) (some X.env.locals)) (fun _ s4 => wpAny (model X.prog X.w) X.A (throw (.ref a)) (SP X pl En) X.xe s4) X.xe { sv with heap := h1 } :=
        HandSPX.setFlight_upZ D1.fly fun h2 held way2 => wpAny_throw (tk _ _ ⟨a, B, su, pl, s0, H0, cls, d, rfl, J, old, D1.way.trans way2, .inr (.inr (hs ▸ held)), out, hos, bare, no rfl⟩)
      rw [← hf] at leave
      apply wpAny_handleBy_nil
      unfold PySem.passOn
      refine wpAny_bind (wpAny_field e1 e2 e3 ?_)
      rw [if_neg (by simp : ¬ ((Value.ref tr == Value.none) = true))]
      first
        | exact wpAny_bind leave
        | exact wpAny_bind (wpAny_pure (wpAny_bind leave))
    | true =>
      apply codeAny_handlers_suite_as
      refine HandSPX.lands_againZ D1.fly fun h2 fly2 way2 => ?_
      have D2 : Down X pl s0 H0 B a cls d su sv h2 := ⟨J, old, D1.way.trans way2, hos, bare, fly2, out⟩
      refine store_ok (X := X.suite a (X.pn ++ pl)) (v := .ref a) (D2.inSuite hx hs hf) hN hi (.inl hln) rfl (fun s3 I3 => ?_) (.inr hln)
      refine wpAny_mono ((hsu a (X.pn ++ pl)).run [] s3 _ _ _ I3 (yes rfl a out)) (fun fl s4 z => ?_) fun _ _ z => z.elim
      have unname : ∀ {s5 H5 R}, Inv (X.suite a (X.pn ++ pl)) [] s5 H5 s4 → (∀ s6, Inv X pl (s5.set i none) H5 s6 → R s6) → wpAny (model X.prog X.w) X.A (do bindName X.env n .none; unbindBehindTheSuite X.env n pos') (fun _ => R) X.xe s4 :=
        fun I5 k => gone_ok (ofSuite okX I5) hN hi hln k
      cases fl with
      | next => exact let ⟨_, _, I5, k⟩ := z; unname I5 fun _ I6 => ⟨_, _, I6, k⟩
      | ret u => exact let ⟨_, _, _, I5, r, k⟩ := z; unname I5 fun _ I6 => ⟨_, _, _, I6, r, k⟩
      | brk => exact let ⟨_, _, I5, k⟩ := z; unname I5 fun _ I6 => ⟨_, _, I6, k⟩
      | cont => exact let ⟨_, _, I5, k⟩ := z; unname I5 fun _ I6 => ⟨_, _, I6, k⟩
end

/-- isinstance(x, c), x an error that is tracked -/
def rIsK (K : PySem.W.Frag) : List V → Hp → VK → Prop := fun xs H Q => ∃ (a D : Addr) (d : Option Addr) (c : V) (cv : Value) (b : Bool), xs = [.ref a, c] ∧ H a = some (ExK (.ref D) d a) ∧ (∀ dd, d = some dd → ∃ fs, H dd = some (.xd fs)) ∧ ExcC K D ∧ (∀ u, RelV c u → u = cv) ∧ PySem.W.kitOne K (.ref D) cv = some b ∧ Q (.bl b) H
section
variable {X : Cx} {pl : List (Addr × Obj)} {sl : L2.St} {H : Hp} {st : Shared} {a D : Addr} {d : Option Addr}
theorem call_isK : CallR X (.builtin "isinstance") (rIsK X.K) := by
  intro pl st sl H xs us Q I rel ask
  obtain ⟨a, D, d, c, cv, b, rfl, ha, hdd, C, hcv, e, q⟩ := ask
  match rel with
  | .cons ra (.cons rc .nil) =>
    cases ra
    cases hcv _ rc
    obtain ⟨⟨ob, fl, g1, g2, g3⟩, _⟩ := I.hok a _ ha
    have inst : ∃ od, PySem.W.InstAt st.heap a ob D od := by
      cases d with
      | none => exact ⟨none, g1, g2.1, by unfold PySem.W.notCls; rw [g3] <;> rfl, by rw [g2.2]; trivial⟩
      | some dd =>
        obtain ⟨fs, hf⟩ := hdd dd rfl
        obtain ⟨mA, ns, _⟩ := I.hok dd _ hf
        obtain ⟨od, g4, _⟩ := lookIn_ns ns
        exact ⟨some od, g1, g2.1, by unfold PySem.W.notCls; rw [g3] <;> rfl, by rw [g2.2]; exact g4⟩
    obtain ⟨od, J⟩ := inst
    obtain ⟨_, cl, _⟩ := PySem.W.any_some C.hd
    exact PySem.W.kia_one (PySem.W.kitx_exc (cl ▸ rfl) C.hg C.hk C.hs C.ha C.hn C.ht C.hm) I.kIn J e (fun z => nomatch z) fun tk => ⟨.bl b, H, I.kept (t' := tk) fun _ _ z => z, rfl, q⟩
/-- x.f, x an error with a dict that is tracked -/
def tXfK (K : PySem.W.Frag) (f : Str) (te : TE) : TE := fun sl H Q => te sl H fun x H1 => ∃ (a C dd : Addr) (fs : List (Str × V)) (v : V), x = .ref a ∧ H1 a = some (ExK (.ref C) (some dd) a) ∧ XfC K C ∧ PySem.W.findIn K (.ref C) f = some none ∧ H1 dd = some (.xd fs) ∧ fs.lookup f = some v ∧ Q v H1
theorem pe_xfK {e : Expr} {te : TE} {pos : Pos} {n : Str} (he : PE X e te) (hb : attributeBase e n X.env (eval e X.env) = eval e X.env := by rfl) : PE X (.Attribute e n pos) (tXfK X.K n te) := by
  constructor
  intro pl st sl H Q I q
  refine attr_of hb (thn (he.run pl st sl H _ I q) fun u s1 z => ?_)
  obtain ⟨_, H1, I1, rel, a, C, dd, fs, v, rfl, ha, T, none_, hdd, at_, q1⟩ := z
  cases rel
  obtain ⟨⟨ob, fl, g1, g2, g3⟩, _⟩ := I1.hok a _ ha
  obtain ⟨mA, ns, rels⟩ := I1.hok dd _ hdd
  obtain ⟨od, g4, g5⟩ := lookIn_ns ns
  have rn := rels n
  rw [at_] at rn
  obtain ⟨w, hw, rw_⟩ := RelO.some_of rn
  have J : PySem.W.InstAt s1.heap a ob C (some od) := ⟨g1, g2.1, by unfold PySem.W.notCls; rw [g3] <;> rfl, by rw [g2.2]; exact g4⟩
  exact HandSPX.exc_get I1.kIn J T.ga T.gg T.exC (PySem.W.findObj_own T.hdC none_ rfl (by rw [g5, hw])) (handed_of rw_) ⟨v, H1, I1.tok _, rw_, q1⟩
end

/-! ### promises of what may raise -/
structure CalX (P : Program) (w : World) (K : PySem.W.Frag) (mg : Str → Option Value) (base : Heap) (x : Str) (k : Nat) (ps : List Str) (sp : Sp) : Prop where
  ex : ∃ (f : Addr) (fd : FuncData), mg x = some (.ref f) ∧ PySem.W.keepIn K (.ref f) = true ∧ Binds K fd ps [] ∧ FnOk P w K mg base (L2.CX P w) k f fd ps sp ∧ ∃ (oc : Value) (od : Option Addr) (osl : Array (Option Value)), K.lookup f = some ⟨oc, od, .func fd, osl⟩
structure CalMX (P : Program) (w : World) (K : PySem.W.Frag) (mg : Str → Option Value) (base : Heap) (C : Addr) (m : Str) (k : Nat) (ps : List Str) (sp : Sp) : Prop where
  ex : ∃ (f : Addr) (fd : FuncData), Meth K C m f ∧ Binds K fd ps [] ∧ FnOk P w K mg base (L2.CX P w) k f fd ps sp
structure CalCX (P : Program) (w : World) (K : PySem.W.Frag) (mg : Str → Option Value) (base : Heap) (C : Addr) (x : Str) (k : Nat) (ps : List Str) (sp : Sp) : Prop where
  ex : ∃ (f : Addr) (fd : FuncData), mg x = some (.ref C) ∧ Mk K C f ∧ Binds K fd ps [] ∧ FnOk P w K mg base (L2.CX P w) k f fd ps sp
section
variable {P : Program} {w : World} {K : PySem.W.Frag} {mg : Str → Option Value} {base : Heap} {C : Addr} {x m qual : Str} {st : Stmt} {k : Nat} {ps N : List Str} {sp : Sp}
theorem Glo.calX (G : Glo K mg x st) (S : FnScope N ps (defScope st)) (bn : ∀ (kV doc pm : Value) (an : Option Addr) (cdv ct : Value) (us : List Value), us.length = ps.length → bindArgs (PySem.W.fnOf x x (defArgs st) (defBody st) (defScope st) .none kV doc pm an cdv ct) ⟨us, []⟩ = pure (ps.zip us))
    (len : ∀ (vs : List V) (H : Hp) (Q : VK) (E : XK), sp vs H Q E → vs.length = ps.length)
    (hbody : ∀ (f : Addr) (cdv : Value) (A : Around) (outer : List Env) (s : Shared) (H : Hp) (vs : List V) (Q : VK) (E : XK), Room k (A.deeper (envOfC x (defScope st) s.heap.objs.size f cdv)) → sp vs H Q E →
      ∃ t, PSs (cxOf (L2.CX P w) P w K mg base N x (defScope st) f cdv A outer s H E) (defBody st) t ∧ t { nx := fun _ H' => Q .non H', rt := Q } (start N vs) H) : CalX P w K mg base x (k + 1) ps sp := by
  obtain ⟨f, fd, h1, F⟩ := G.ex
  refine ⟨f, fd, h1, F.kp, F.binds bn, F.okX S len (fun cdv A outer s H vs Q E hr h => hbody f cdv A outer s H vs Q E hr h), ?_⟩
  obtain ⟨oc, od, kV, doc, pm, an, cdv, ct, osl, _, lk, _⟩ := F.ex
  exact ⟨oc, od, osl, lk⟩
theorem GloM.calX (G : GloM K C m qual st) (S : FnScope N ps (defScope st)) (bn : ∀ (kV doc pm : Value) (an : Option Addr) (cdv ct : Value) (us : List Value), us.length = ps.length → bindArgs (PySem.W.fnOf m qual (defArgs st) (defBody st) (defScope st) .none kV doc pm an cdv ct) ⟨us, []⟩ = pure (ps.zip us))
    (len : ∀ (vs : List V) (H : Hp) (Q : VK) (E : XK), sp vs H Q E → vs.length = ps.length)
    (hbody : ∀ (f : Addr) (cdv : Value) (A : Around) (outer : List Env) (s : Shared) (H : Hp) (vs : List V) (Q : VK) (E : XK), Room k (A.deeper (envOfC qual (defScope st) s.heap.objs.size f cdv)) → sp vs H Q E →
      ∃ t, PSs (cxOf (L2.CX P w) P w K mg base N qual (defScope st) f cdv A outer s H E) (defBody st) t ∧ t { nx := fun _ H' => Q .non H', rt := Q } (start N vs) H) : CalMX P w K mg base C m (k + 1) ps sp := by
  obtain ⟨f, fd, h1, F⟩ := G.ex
  exact ⟨f, fd, h1, F.binds bn, F.okX S len (fun cdv A outer s H vs Q E hr h => hbody f cdv A outer s H vs Q E hr h)⟩
theorem GloC.calX (G : GloC K mg C x qual st) (S : FnScope N ps (defScope st)) (bn : ∀ (kV doc pm : Value) (an : Option Addr) (cdv ct : Value) (us : List Value), us.length = ps.length → bindArgs (PySem.W.fnOf "__init__" qual (defArgs st) (defBody st) (defScope st) .none kV doc pm an cdv ct) ⟨us, []⟩ = pure (ps.zip us))
    (len : ∀ (vs : List V) (H : Hp) (Q : VK) (E : XK), sp vs H Q E → vs.length = ps.length)
    (hbody : ∀ (f : Addr) (cdv : Value) (A : Around) (outer : List Env) (s : Shared) (H : Hp) (vs : List V) (Q : VK) (E : XK), Room k (A.deeper (envOfC qual (defScope st) s.heap.objs.size f cdv)) → sp vs H Q E →
      ∃ t, PSs (cxOf (L2.CX P w) P w K mg base N qual (defScope st) f cdv A outer s H E) (defBody st) t ∧ t { nx := fun _ H' => Q .non H', rt := Q } (start N vs) H) : CalCX P w K mg base C x (k + 1) ps sp := by
  obtain ⟨f, fd, h1, h2, F⟩ := G.ex
  exact ⟨f, fd, h1, h2, F.binds bn, F.okX S len (fun cdv A outer s H vs Q E hr h => hbody f cdv A outer s H vs Q E hr h)⟩
end
section
variable {X : Cx} {C : Addr} {x m : Str} {k : Nat} {ps : List Str} {sp : Sp} {E : XK} {W : WX} {o e : Expr} {es : List Expr} {ta : TE} {t : TA} {p apos pos : Pos}
theorem pe_calX (C : CalX X.prog X.w X.K X.mg X.base x k ps sp) (hr : Room k X.A) (hg : Gl X x) (tk : Takes X W) (hW : ∀ cls d σ H, E cls d H → W cls d σ H) (ha : PA X (e :: es) t) (hdb : (x == ("__debug__" : Str)) = false := by decide) (he : starEach (e :: es) X.env = (false, eval e X.env) :: starEach es X.env := by rfl) (hpl : (backTo pos (starEach es X.env)).any (·.1) = false := by rfl) : PE X (.Call (.Name x p) (e :: es) [] pos) (tCall sp [] E t) := by
  obtain ⟨f, fd, h1, h2, h3, h4, _⟩ := C.ex
  exact pe_call h4 hr hg h1 h2 h3 .nil (passes_call tk hW) ha hdb he hpl
theorem pe_calMX {pl : Sem Bool} (he : PE X o ta) (T : Cls X.K C) (F : CalMX X.prog X.w X.K X.mg X.base C m k ps sp) (hr : Room k X.A) (tk : Takes X W) (hW : ∀ cls d σ H, E cls d H → W cls d σ H) (ha : PA X (e :: es) t)
    (star : starEach (e :: es) X.env = (false, eval e X.env) :: starEach es X.env := by rfl) (plain : (backTo pos (starEach es X.env)).any (·.1) = false := by rfl) (ht : eval (.Call (.Attribute o m apos) (e :: es) [] pos) X.env = (do
      let w ← eval o X.env
      standAt apos.atName
      let (f, one) ← holding [w] (getMethod w m pl)
      callWith pos f one (backTo pos (starEach (e :: es) X.env)) (backToKw pos (keywordEach [] X.env))) := by rfl) :
    PE X (.Call (.Attribute o m apos) (e :: es) [] pos) (tMeth C m sp [] E ta t) := by
  obtain ⟨f, fd, h1, h2, h3⟩ := F.ex
  exact pe_meth he T h1 h3 hr h2 .nil (passes_call tk hW) ha star plain ht
theorem pe_calM0X {pl : Sem Bool} (he : PE X o ta) (T : Cls X.K C) (F : CalMX X.prog X.w X.K X.mg X.base C m k ps sp) (hr : Room k X.A) (tk : Takes X W) (hW : ∀ cls d σ H, E cls d H → W cls d σ H)
    (bare : eval (.Call (.Attribute o m apos) [] [] pos) X.env = (do
      let w ← eval o X.env
      standAt apos.atName
      let (f, one) ← holding [w] (getMethod w m pl)
      callWith pos f one (backTo pos (starEach [] X.env)) (backToKw pos (keywordEach [] X.env))) := by rfl) :
    PE X (.Call (.Attribute o m apos) [] [] pos) (tMeth C m sp [] E ta tNil) := by
  obtain ⟨f, fd, h1, h2, h3⟩ := F.ex
  exact pe_meth0 he T h1 h3 hr h2 .nil (passes_call tk hW) bare
theorem pe_mkX (F : CalCX X.prog X.w X.K X.mg X.base C x k ps sp) (hr : Room (k + 1) X.A) (hg : Gl X x) (tk : Takes X W) (hW : ∀ cls d σ H, E cls d H → W cls d σ H) (ha : PA X (e :: es) t) (hdb : (x == ("__debug__" : Str)) = false := by decide) (he : starEach (e :: es) X.env = (false, eval e X.env) :: starEach es X.env := by rfl) (hpl : (backTo pos (starEach es X.env)).any (·.1) = false := by rfl) :
    PE X (.Call (.Name x p) (e :: es) [] pos) (tMake C sp [] E t) := by
  obtain ⟨f, fd, h1, h2, h3, h4⟩ := F.ex
  exact pe_make h2 h4 hr hg h1 h3 .nil (passes_call tk hW) ha hdb he hpl
end

/-! ### own errors -/
/-- what is wanted of an own error class without own __init__ -/
structure ErrT (K : PySem.W.Frag) (mg : Str → Option Value) (x : Str) (C : Addr) : Prop where
  gP : mg x = some (.ref C)
  xP : PySem.W.excIn K C [.type "ValueError", .type "Exception", .type "BaseException", .type "object"] "ValueError.__new__" = true
  kP : PySem.W.keepIn K (.ref C) = true
  bP : PySem.W.subIn K (.ref C) (.type "BaseException") = some true
  tP : PySem.W.typeIn K (.ref C) = some (.type "type")
section
variable {X : Cx} {C : Addr} {x : Str} {e : Expr} {te : TE} {p pos : Pos}
/-- X(e), raised -/
theorem pmk_ownE (T : ErrT X.K X.mg x C) (he : PE X e te) (hg : Gl X x) (hs : starEach [e] X.env = (false, eval e X.env) :: starEach [] X.env := by rfl) (hdb : (x == ("__debug__" : Str)) = false := by decide) :
    PMk X (.Call (.Name x p) [e] [] pos) (fun σ H Q => te σ H fun _ H1 => Q (.ref C) none H1) := by
  intro pl st sl H Q I q
  let one : List V → Hp → Prop := fun
    | [_], H1 => Q (.ref C) none H1
    | _, _ => False
  refine wpAny_Call_Name_kw (ld_glob I hg T.gP (PySem.W.callWith_K (h₀ := X.base) I.ok.mod.kin T.kP (thn ((pa_cons (hs := hs) he pa_nil).run pos pl st sl H one I q) fun us s1 z => ?_) hs (by rfl)) hdb)
  obtain ⟨vs, H1, I1, rel, q1⟩ := z
  refine ⟨I1.kIn, ?_⟩
  match rel, q1 with
  | .cons _ .nil, q1 =>
    obtain ⟨_, _, _, _, _, _, _, _, _, _, _, _, _, _, _, _, _, hC, hN, hni, tail⟩ := exc_obj I1.kIn T.xP
    show wpAny _ _ (call (.ref C) [_]) _ _ _
    refine wpAny_call_exc_subT PySem.F.excBase_ValueError tail hC hN hni (fun _ _ hm => mk_of I1 hm (raises_own T.bP T.tP) q1 (I1.hok.gone hm.new)) ?_
    simp [sizeLine_eq]
/-- raise X(e) -/
theorem ps_raiseE {W : WX} {pos' : Pos} (T : ErrT X.K X.mg x C) (hc : X.calm = true) (tk : Takes X W) (he : PE X e te) (hg : Gl X x) (hs : starEach [e] X.env = (false, eval e X.env) :: starEach [] X.env := by rfl) (hdb : (x == ("__debug__" : Str)) = false := by decide) :
    PS X (.Raise (some (.Call (.Name x p) [e] [] pos)) none pos') (fun _ σ H => te σ H fun _ H1 => W (.ref C) none σ H1) := ps_raise hc tk (pmk_ownE T he hg hs hdb)
end

/-! ### f-strings of ints -/
section
variable {σ : L2.St} {H : Hp} {acc s : Str} {ts : List TE} {te : TE} {Q : Str → Hp → Prop} {Q' : VK} {i : Int}
theorem w_jsN (k : Q acc H) : tJs [] acc σ H Q := k
theorem w_jsC (n : Nat) (hn : acc.length ≤ n) (hs : s.length + n ≤ 10000000 := by decide +kernel) (k : ∀ acc' : Str, acc'.length ≤ s.length + n → tJs ts acc' σ H Q) : tJs (tC (.str s) :: ts) acc σ H Q := by
  have e : (acc ++ s).length ≤ s.length + n := by rw [PySem.Str.length_append]; omega
  exact ⟨s, rfl, by rw [sizeLine_eq]; omega, k _ e⟩
theorem w_jsI (n : Nat) (hn : acc.length ≤ n) (hs : n ≤ 10000000) (k : te σ H fun x H1 => ∃ i, x = .int i ∧ i.natAbs < 1900 ∧ ∀ acc' : Str, acc'.length ≤ n + 1921 → tJs ts acc' σ H1 Q)
    (mono : ∀ Q1 Q2 : VK, (∀ x H1, Q1 x H1 → Q2 x H1) → te σ H Q1 → te σ H Q2) : tJs (tFmt te :: ts) acc σ H Q := by
  refine mono _ _ (fun x H1 h => ?_) k
  obtain ⟨i, rfl, hi, hk⟩ := h
  have hl : i.natAbs.log2 < 1920 := Nat.lt_of_le_of_lt (Nat.log2_le_self _) (by omega)
  have e := PyProof.Rows.int_text_len_1921 hl
  have e2 : (acc ++ PySem.Str.ofString (toString i)).length ≤ n + 1921 := by rw [PySem.Str.length_append]; omega
  exact .inr ⟨i, rfl, hl, _, rfl, by rw [sizeLine_eq]; omega, hk _ e2⟩
/-- .. behind the walk to the int -/
theorem w_fmtI (n : Nat) (hn : acc.length ≤ n) (hs : n ≤ 10000000) (hi : i.natAbs < 1900) (k : ∀ acc' : Str, acc'.length ≤ n + 1921 → tJs ts acc' σ H Q) :
    (∃ y : Str, V.int i = .str y ∧ y.length ≤ sizeLine ∧ ∃ y' : Str, V.str y = .str y' ∧ (acc ++ y').length ≤ sizeLine ∧ tJs ts (acc ++ y') σ H Q) ∨ ∃ j : Int, V.int i = .int j ∧ j.natAbs.log2 < 1920 ∧ ∃ y' : Str, V.str (PySem.Str.ofString (toString j)) = .str y' ∧ (acc ++ y').length ≤ sizeLine ∧ tJs ts (acc ++ y') σ H Q := by
  have hl : i.natAbs.log2 < 1920 := Nat.lt_of_le_of_lt (Nat.log2_le_self _) (by omega)
  have e := PyProof.Rows.int_text_len_1921 hl
  have e2 : (acc ++ PySem.Str.ofString (toString i)).length ≤ n + 1921 := by rw [PySem.Str.length_append]; omega
  exact .inr ⟨i, rfl, hl, _, rfl, by rw [sizeLine_eq]; omega, k _ e2⟩
theorem w_fmt (k : te σ H fun x H1 => (∃ y : Str, x = .str y ∧ y.length ≤ sizeLine ∧ Q' (.str y) H1) ∨ ∃ i : Int, x = .int i ∧ i.natAbs.log2 < 1920 ∧ Q' (.str (PySem.Str.ofString (toString i))) H1) : tFmt te σ H Q' := k
theorem w_jsF (k : te σ H fun x H1 => (∃ y : Str, x = .str y ∧ y.length ≤ sizeLine ∧ ∃ y' : Str, V.str y = .str y' ∧ (acc ++ y').length ≤ sizeLine ∧ tJs ts (acc ++ y') σ H1 Q) ∨ ∃ i : Int, x = .int i ∧ i.natAbs.log2 < 1920 ∧ ∃ y' : Str, V.str (PySem.Str.ofString (toString i)) = .str y' ∧ (acc ++ y').length ≤ sizeLine ∧ tJs ts (acc ++ y') σ H1 Q) : tJs (tFmt te :: ts) acc σ H Q := k
end

/-! ### calls that may raise, walked -/
section
variable {K : PySem.W.Frag} {σ : L2.St} {H : Hp} {Q : VK} {E : XK} {ta : TE} {t : TA} {B : Hp} {M : List (Addr × HO)} {p : Addr} {C : Addr} {m : Str} {sp : Sp}
theorem w_callX (k : t σ H fun vs H1 => sp (vs ++ []) H1 Q E) : tCall sp [] E t σ H Q := k
def MethXX (C : Addr) (m : Str) (sp : Sp) (E : XK) (y : V) (t : TA) (σ : L2.St) (H1 : Hp) (Q : VK) : Prop := ∃ p dx fs, y = .ref p ∧ H1 p = some (.ins C dx fs) ∧ fs.lookup m = none ∧ t σ H1 fun vs H2 => sp (y :: (vs ++ [])) H2 Q E
theorem w_methX (k : ta σ H fun x H1 => MethXX C m sp E x t σ H1 Q) : tMeth C m sp [] E ta t σ H Q := k
theorem w_methXE {dx : Addr} {fs : List (Str × V)} (h : H p = some (.ins C dx fs)) (hm : fs.lookup m = none) (k : t σ H fun vs H2 => sp (.ref p :: (vs ++ [])) H2 Q E) : MethXX C m sp E (.ref p) t σ H Q := ⟨p, dx, fs, rfl, h, hm, k⟩
def MakeXX (C : Addr) (sp : Sp) (E : XK) (vs : List V) (H : Hp) (Q : VK) : Prop := ∀ x dx, H x = none → H dx = none → dx ≠ x → sp (.ref x :: (vs ++ [])) (upd (upd H dx (.own x)) x (.ins C dx [])) (fun v H2 => v = .non ∧ Q (.ref x) H2) E
theorem w_makeX (k : t σ H fun vs H1 => MakeXX C sp E vs H1 Q) : tMake C sp [] E t σ H Q := k
theorem w_makeXE {vs : List V} (S : Hs B M H) (k : ∀ x dx H', Hs B ((x, .ins C dx []) :: (dx, .own x) :: M) H' → sp (.ref x :: (vs ++ [])) H' (fun v H2 => v = .non ∧ Q (.ref x) H2) E) : MakeXX C sp E vs H Q := fun x dx hx hd ne =>
  k x dx _ ((S.new hd (.own x)).new (by rw [upd_ne ne.symm]; exact hx) _)
end

section
variable {X : Cx}
theorem k_isK (K : PySem.W.Frag) (e : X.K = K := by rfl) : CallR X (.builtin "isinstance") (rIsK K) := by subst e; exact call_isK
theorem pe_xfKK (K : PySem.W.Frag) {e : Expr} {te : TE} {pos : Pos} {n : Str} (he : PE X e te) (hK : X.K = K := by rfl) (hb : attributeBase e n X.env (eval e X.env) = eval e X.env := by rfl) : PE X (.Attribute e n pos) (tXfK K n te) := by subst hK; exact pe_xfK he hb
/-- the slots' number is known where an error is caught -/
theorem takes_len {W : WX} (tk : Takes X W) : Takes X (fun c d σ H => σ.length = X.N.length → W c d σ H) := fun u s' ⟨a, B, sI, pins, σ, H, cls, d, e, I, nb, up, sky, na, os, ag, w⟩ =>
  tk u s' ⟨a, B, sI, pins, σ, H, cls, d, e, I, nb, up, sky, na, os, ag, w I.len⟩
end
section
variable {K : PySem.W.Frag} {σ : L2.St} {H : Hp} {Q : VK} {B : Hp} {M : List (Addr × HO)} {a D : Addr}
/-- isinstance of a kept error without a dict, walked -/
theorem w_isK {c : V} {cv : Value} {b : Bool} (ha : H a = some (ExK (.ref D) none a)) (C : ExcC K D) (hc : ∀ u, RelV c u → u = cv) (e : PySem.W.kitOne K (.ref D) cv = some b) (k : Q (.bl b) H) : rIsK K [.ref a, c] H Q :=
  ⟨a, D, none, c, cv, b, rfl, ha, (fun _ z => nomatch z), C, hc, e, k⟩
theorem rel_ref {C : Addr} : ∀ u, RelV (.ref C) u → u = .ref C := fun _ h => h
theorem rel_ty {s : String} : ∀ u, RelV (.ty s) u → u = .type s := fun _ h => h
end
end Rw

/-! Rw, further: defaults, item sums, zip in comprehensions, vectors. -/
namespace Rw
open PySem PySem.Spec PyProof.Rows L2

/-! ### what may raise, where no raising is wished -/
theorem calmed {P : Program} {w : World} {K : PySem.W.Frag} {mg : Str → Option Value} {base : Heap} {k : Nat} {f : Addr} {fd : FuncData} {ps : List Str} {sp : Sp} (F : FnOk P w K mg base (L2.CX P w) k f fd ps sp) :
    FnOk P w K mg base CX0 k f fd ps (fun vs H Q _ => sp vs H Q (fun _ _ _ => False)) := by
  refine ⟨fun vs H Q E h => F.len vs H Q _ h, fun A outer s H args us vs Q E hr he hb hv h => ?_⟩
  refine codeAny_mono (F.run A outer s H args us vs Q _ hr he hb hv h) fun r s' hq => ?_
  cases r with
  | error e =>
    obtain ⟨a, B', H', cls, d, _, _, _, _, _, _, _, z⟩ := hq
    exact z.elim
  | ok fl => cases fl <;> exact hq
section
variable {P : Program} {w : World} {K : PySem.W.Frag} {mg : Str → Option Value} {base : Heap} {C : Addr} {x m : Str} {k j : Nat} {ps : List Str} {sp sp' : Sp}
theorem CalMX.calm (F : CalMX P w K mg base C m k ps sp) (h : ∀ vs H Q, sp' vs H Q E0 → sp vs H Q (fun _ _ _ => False)) (hE : ∀ vs H Q E, sp' vs H Q E → sp' vs H Q E0) : CalM P w K mg base C m k ps sp' := by
  obtain ⟨f, fd, h1, h2, h3⟩ := F.ex
  exact ⟨f, fd, h1, h2, (calmed h3).imp fun vs H Q E q => h vs H Q (hE vs H Q E q)⟩
theorem CalCX.calm (F : CalCX P w K mg base C x k ps sp) (h : ∀ vs H Q, sp' vs H Q E0 → sp vs H Q (fun _ _ _ => False)) (hE : ∀ vs H Q E, sp' vs H Q E → sp' vs H Q E0) : CalC P w K mg base C x k ps sp' := by
  obtain ⟨f, fd, h1, h2, h3, h4⟩ := F.ex
  exact ⟨f, fd, h1, h2, h3, (calmed h4).imp fun vs H Q E q => h vs H Q (hE vs H Q E q)⟩
theorem CalX.calm (F : CalX P w K mg base x k ps sp) (h : ∀ vs H Q, sp' vs H Q E0 → sp vs H Q (fun _ _ _ => False)) (hE : ∀ vs H Q E, sp' vs H Q E → sp' vs H Q E0) : Cal P w K mg base x k ps sp' := by
  obtain ⟨f, fd, h1, h2, h3, h4, h5⟩ := F.ex
  exact ⟨f, fd, h1, h2, h3, (calmed h4).imp fun vs H Q E q => h vs H Q (hE vs H Q E q), h5⟩
theorem CalM.mono (F : CalM P w K mg base C x j ps sp) (h : j ≤ k) : CalM P w K mg base C x k ps sp := by
  obtain ⟨f, fd, h1, h2, h3⟩ := F.ex
  exact ⟨f, fd, h1, h2, h3.mono h⟩
theorem CalX.mono (F : CalX P w K mg base x j ps sp) (h : j ≤ k) : CalX P w K mg base x k ps sp := by
  obtain ⟨f, fd, h1, h2, h3, h4, h5⟩ := F.ex
  exact ⟨f, fd, h1, h2, h3, h4.mono h, h5⟩
theorem CalMX.mono (F : CalMX P w K mg base C x j ps sp) (h : j ≤ k) : CalMX P w K mg base C x k ps sp := by
  obtain ⟨f, fd, h1, h2, h3⟩ := F.ex
  exact ⟨f, fd, h1, h2, h3.mono h⟩
theorem CalC.mono (F : CalC P w K mg base C x j ps sp) (h : j ≤ k) : CalC P w K mg base C x k ps sp := by
  obtain ⟨f, fd, h1, h2, h3, h4⟩ := F.ex
  exact ⟨f, fd, h1, h2, h3, h4.mono h⟩
theorem CalCX.mono (F : CalCX P w K mg base C x j ps sp) (h : j ≤ k) : CalCX P w K mg base C x k ps sp := by
  obtain ⟨f, fd, h1, h2, h3, h4⟩ := F.ex
  exact ⟨f, fd, h1, h2, h3, h4.mono h⟩
end

/-! ### defs with defaults -/
structure GloMD (K : PySem.W.Frag) (C : Addr) (m qual : Str) (st : Stmt) (dvs : List V) : Prop where
  ex : ∃ (f : Addr) (fd : FuncData), Meth K C m f ∧ FunD K m qual (defArgs st) (defBody st) (defScope st) dvs [] f fd
structure GloCD (K : PySem.W.Frag) (mg : Str → Option Value) (C : Addr) (x qual : Str) (st : Stmt) (dvs : List V) : Prop where
  ex : ∃ (f : Addr) (fd : FuncData), mg x = some (.ref C) ∧ Mk K C f ∧ FunD K "__init__" qual (defArgs st) (defBody st) (defScope st) dvs [] f fd
/-- promises with the last parameters' defaults filled in -/
structure CalMd (P : Program) (w : World) (K : PySem.W.Frag) (mg : Str → Option Value) (base : Heap) (C : Addr) (m : Str) (k : Nat) (ps : List Str) (dvs : List V) (sp : Sp) : Prop where
  ex : ∃ (f : Addr) (fd : FuncData) (ds : List Value), Meth K C m f ∧ Vals dvs ds ∧ Binds K fd ps ds ∧ FnOk P w K mg base (L2.CX P w) k f fd ps sp
structure CalCd (P : Program) (w : World) (K : PySem.W.Frag) (mg : Str → Option Value) (base : Heap) (C : Addr) (x : Str) (k : Nat) (ps : List Str) (dvs : List V) (sp : Sp) : Prop where
  ex : ∃ (f : Addr) (fd : FuncData) (ds : List Value), mg x = some (.ref C) ∧ Mk K C f ∧ Vals dvs ds ∧ Binds K fd ps ds ∧ FnOk P w K mg base (L2.CX P w) k f fd ps sp
section
variable {P : Program} {w : World} {K : PySem.W.Frag} {mg : Str → Option Value} {base : Heap} {C : Addr} {x m qual : Str} {st : Stmt} {k j n : Nat} {ps N : List Str} {sp : Sp} {dvs : List V}
/-- how n written values and the defaults behind the first j bind -/
abbrev BindD (m qual : Str) (st : Stmt) (ps : List Str) (many n j : Nat) : Prop := ∀ (T : Addr) (kV doc pm : Value) (an : Option Addr) (cdv ct : Value) (us its : List Value), us.length = n → its.length = many →
  ∃ k, bindArgs (PySem.W.fnOf m qual (defArgs st) (defBody st) (defScope st) (.ref T) kV doc pm an cdv ct) ⟨us, []⟩ = seqItems? (.ref T) >>= k ∧ k (some its.toArray) = pure (ps.zip (us ++ its.drop j))
abbrev BodyX (P : Program) (w : World) (K : PySem.W.Frag) (mg : Str → Option Value) (base : Heap) (N : List Str) (qual : Str) (st : Stmt) (k : Nat) (sp : Sp) : Prop :=
  ∀ (f : Addr) (cdv : Value) (A : Around) (outer : List Env) (s : Shared) (H : Hp) (vs : List V) (Q : VK) (E : XK), Room k (A.deeper (envOfC qual (defScope st) s.heap.objs.size f cdv)) → sp vs H Q E →
    ∃ t, PSs (cxOf (L2.CX P w) P w K mg base N qual (defScope st) f cdv A outer s H E) (defBody st) t ∧ t { nx := fun _ H' => Q .non H', rt := Q } (start N vs) H
theorem GloMD.calD (G : GloMD K C m qual st dvs) (S : FnScope N ps (defScope st)) (n j : Nat) (hd : dvs ≠ []) (hn : n + (dvs.length - j) = ps.length) (bn : BindD m qual st ps dvs.length n j)
    (len : ∀ (vs : List V) (H : Hp) (Q : VK) (E : XK), sp vs H Q E → vs.length = ps.length) (hbody : BodyX P w K mg base N qual st k sp) : CalMd P w K mg base C m (k + 1) ps (dvs.drop j) sp := by
  obtain ⟨f, fd, h1, F⟩ := G.ex
  obtain ⟨ds, h2, h3⟩ := F.binds1 n j hd hn bn
  exact ⟨f, fd, ds, h1, h2, h3, F.ok S len (fun cdv A outer s H vs Q E hr h => hbody f cdv A outer s H vs Q E hr h)⟩
theorem GloCD.calD (G : GloCD K mg C x qual st dvs) (S : FnScope N ps (defScope st)) (n j : Nat) (hd : dvs ≠ []) (hn : n + (dvs.length - j) = ps.length) (bn : BindD "__init__" qual st ps dvs.length n j)
    (len : ∀ (vs : List V) (H : Hp) (Q : VK) (E : XK), sp vs H Q E → vs.length = ps.length) (hbody : BodyX P w K mg base N qual st k sp) : CalCd P w K mg base C x (k + 1) ps (dvs.drop j) sp := by
  obtain ⟨f, fd, h0, h1, F⟩ := G.ex
  obtain ⟨ds, h2, h3⟩ := F.binds1 n j hd hn bn
  exact ⟨f, fd, ds, h0, h1, h2, h3, F.ok S len (fun cdv A outer s H vs Q E hr h => hbody f cdv A outer s H vs Q E hr h)⟩
theorem vals_nil {ds : List Value} (h : Vals [] ds) : ds = [] := by cases h; rfl
theorem CalMd.full (F : CalMd P w K mg base C m k ps [] sp) : CalMX P w K mg base C m k ps sp := by
  obtain ⟨f, fd, ds, h1, h2, h3, h4⟩ := F.ex
  rw [vals_nil h2] at h3
  exact ⟨f, fd, h1, h3, h4⟩
theorem CalCd.full (F : CalCd P w K mg base C x k ps [] sp) : CalCX P w K mg base C x k ps sp := by
  obtain ⟨f, fd, ds, h0, h1, h2, h3, h4⟩ := F.ex
  rw [vals_nil h2] at h3
  exact ⟨f, fd, h0, h1, h3, h4⟩
theorem CalMd.mono (F : CalMd P w K mg base C m j ps dvs sp) (h : j ≤ k) : CalMd P w K mg base C m k ps dvs sp := by
  obtain ⟨f, fd, ds, h1, h2, h3, h4⟩ := F.ex
  exact ⟨f, fd, ds, h1, h2, h3, h4.mono h⟩
theorem CalCd.mono (F : CalCd P w K mg base C x j ps dvs sp) (h : j ≤ k) : CalCd P w K mg base C x k ps dvs sp := by
  obtain ⟨f, fd, ds, h0, h1, h2, h3, h4⟩ := F.ex
  exact ⟨f, fd, ds, h0, h1, h2, h3, h4.mono h⟩
end
section
variable {X : Cx} {C : Addr} {x m : Str} {k : Nat} {ps : List Str} {sp : Sp} {E : XK} {W : WX} {o e : Expr} {es : List Expr} {ta : TE} {t : TA} {p apos pos : Pos} {dvs : List V}
/-- o.m(e, ..) with defaults, what it raises wished for -/
theorem pe_calMdX {pl : Sem Bool} (he : PE X o ta) (T : Cls X.K C) (F : CalMd X.prog X.w X.K X.mg X.base C m k ps dvs sp) (hr : Room k X.A) (tk : Takes X W) (hW : ∀ cls d σ H, E cls d H → W cls d σ H) (ha : PA X (e :: es) t)
    (star : starEach (e :: es) X.env = (false, eval e X.env) :: starEach es X.env := by rfl) (plain : (backTo pos (starEach es X.env)).any (·.1) = false := by rfl) (ht : eval (.Call (.Attribute o m apos) (e :: es) [] pos) X.env = (do
      let w ← eval o X.env
      standAt apos.atName
      let (f, one) ← holding [w] (getMethod w m pl)
      callWith pos f one (backTo pos (starEach (e :: es) X.env)) (backToKw pos (keywordEach [] X.env))) := by rfl) :
    PE X (.Call (.Attribute o m apos) (e :: es) [] pos) (tMeth C m sp (dvs : List V) E ta t) := by
  obtain ⟨f, fd, ds, h1, h2, h3, h4⟩ := F.ex
  exact pe_meth he T h1 h4 hr h3 h2 (passes_call tk hW) ha star plain ht
/-- .. where none is wished -/
theorem pe_calMd {pl : Sem Bool} (he : PE X o ta) (T : Cls X.K C) (F : CalMd X.prog X.w X.K X.mg X.base C m k ps dvs sp) (hr : Room k X.A) (ha : PA X (e :: es) t)
    (star : starEach (e :: es) X.env = (false, eval e X.env) :: starEach es X.env := by rfl) (plain : (backTo pos (starEach es X.env)).any (·.1) = false := by rfl) (ht : eval (.Call (.Attribute o m apos) (e :: es) [] pos) X.env = (do
      let w ← eval o X.env
      standAt apos.atName
      let (f, one) ← holding [w] (getMethod w m pl)
      callWith pos f one (backTo pos (starEach (e :: es) X.env)) (backToKw pos (keywordEach [] X.env))) := by rfl) :
    PE X (.Call (.Attribute o m apos) (e :: es) [] pos) (tMeth C m (fun vs H Q _ => sp vs H Q (fun _ _ _ => False)) dvs E0 ta t) := by
  obtain ⟨f, fd, ds, h1, h2, h3, h4⟩ := F.ex
  exact pe_meth he T h1 (calmed h4) hr h3 h2 pass0 ha star plain ht
theorem pe_mkd (F : CalCd X.prog X.w X.K X.mg X.base C x k ps dvs sp) (hr : Room (k + 1) X.A) (hg : Gl X x) (ha : PA X (e :: es) t) (hdb : (x == ("__debug__" : Str)) = false := by decide) (he : starEach (e :: es) X.env = (false, eval e X.env) :: starEach es X.env := by rfl) (hpl : (backTo pos (starEach es X.env)).any (·.1) = false := by rfl) :
    PE X (.Call (.Name x p) (e :: es) [] pos) (tMake C (fun vs H Q _ => sp vs H Q (fun _ _ _ => False)) dvs E0 t) := by
  obtain ⟨f, fd, ds, h0, h1, h2, h3, h4⟩ := F.ex
  exact pe_make h1 (calmed h4) hr hg h0 h3 h2 pass0 ha hdb he hpl
end
/-- the promise without a wish of raising -/
abbrev noE (sp : Sp) : Sp := fun vs H Q _ => sp vs H Q (fun _ _ _ => False)
section
variable {P : Program} {w : World} {K : PySem.W.Frag} {mg : Str → Option Value} {base : Heap} {C : Addr} {x m : Str} {k : Nat} {ps : List Str} {sp : Sp}
theorem CalX.toC (F : CalX P w K mg base x k ps sp) : Cal P w K mg base x k ps (noE sp) := by
  obtain ⟨f, fd, h1, h2, h3, h4, h5⟩ := F.ex
  exact ⟨f, fd, h1, h2, h3, calmed h4, h5⟩
theorem CalMX.toM (F : CalMX P w K mg base C m k ps sp) : CalM P w K mg base C m k ps (noE sp) := by
  obtain ⟨f, fd, h1, h2, h3⟩ := F.ex
  exact ⟨f, fd, h1, h2, calmed h3⟩
theorem CalCX.toC (F : CalCX P w K mg base C x k ps sp) : CalC P w K mg base C x k ps (noE sp) := by
  obtain ⟨f, fd, h1, h2, h3, h4⟩ := F.ex
  exact ⟨f, fd, h1, h2, h3, calmed h4⟩
end
/-! walked -/
section
variable {K : PySem.W.Frag} {σ : L2.St} {H : Hp} {Q : VK} {E : XK} {ta te : TE} {t : TA} {B : Hp} {M : List (Addr × HO)} {p : Addr} {C : Addr} {m : Str} {sp : Sp} {dvs : List V} {D : Ends} {xs : List V}
def MethD (C : Addr) (m : Str) (sp : Sp) (dvs : List V) (E : XK) (y : V) (t : TA) (σ : L2.St) (H1 : Hp) (Q : VK) : Prop := ∃ p dx fs, y = .ref p ∧ H1 p = some (.ins C dx fs) ∧ fs.lookup m = none ∧ t σ H1 fun vs H2 => sp (y :: (vs ++ dvs)) H2 Q E
theorem w_methd (k : ta σ H fun x H1 => MethD C m sp dvs E x t σ H1 Q) : tMeth C m sp dvs E ta t σ H Q := k
theorem w_methdE {dx : Addr} {fs : List (Str × V)} (h : H p = some (.ins C dx fs)) (hm : fs.lookup m = none) (k : t σ H fun vs H2 => sp (.ref p :: (vs ++ dvs)) H2 Q E) : MethD C m sp dvs E (.ref p) t σ H Q := ⟨p, dx, fs, rfl, h, hm, k⟩
def MakeD (C : Addr) (sp : Sp) (dvs : List V) (E : XK) (vs : List V) (H : Hp) (Q : VK) : Prop := ∀ x dx, H x = none → H dx = none → dx ≠ x → sp (.ref x :: (vs ++ dvs)) (upd (upd H dx (.own x)) x (.ins C dx [])) (fun v H2 => v = .non ∧ Q (.ref x) H2) E
theorem w_maked (k : t σ H fun vs H1 => MakeD C sp dvs E vs H1 Q) : tMake C sp dvs E t σ H Q := k
theorem w_makedE {vs : List V} (S : Hs B M H) (k : ∀ x dx H', Hs B ((x, .ins C dx []) :: (dx, .own x) :: M) H' → sp (.ref x :: (vs ++ dvs)) H' (fun v H2 => v = .non ∧ Q (.ref x) H2) E) : MakeD C sp dvs E vs H Q := fun x dx hx hd ne =>
  k x dx _ ((S.new hd (.own x)).new (by rw [upd_ne ne.symm]; exact hx) _)
/-! ### xs[i] += e -/
/-- an item of a list, read by a place that is not below 0 -/
def rGet (K : PySem.W.Frag) : V → V → Hp → VK → Prop := fun o i H Q => ∃ p xs j v, o = .ref p ∧ i = .int j ∧ SqL K H p xs ∧ 0 ≤ j ∧ xs[j.toNat]? = some v ∧ Q v H
theorem get_list {X : Cx} (K : PySem.W.Frag) (e : X.K = K := by rfl) : PGet X (rGet K) := by
  subst e
  intro pl0 s σ H o i ov iv Q I ro ri h
  obtain ⟨p, xs, j, v, rfl, rfl, hq, h0, hv, q⟩ := h
  cases ro
  obtain ⟨t, rfl⟩ := ri
  obtain ⟨items, rv, plain, hz⟩ := I.list hq
  obtain ⟨u, hu, ru⟩ := rv.get hv
  have hl := rv.length
  have hj := (List.getElem?_eq_some_iff.mp hv).1
  have big := line63
  exact wpAny_getItem_list plain.isList h0 (by omega) (by simpa using hu) ⟨v, H, I, ru, q⟩
def AugG (K : PySem.W.Frag) (te : TE) (tip : TIp) (o i : V) (D : Ends) (σ : L2.St) (H : Hp) : Prop := rGet K o i H fun x H3 => te σ H3 fun y H4 => tip x y H4 fun z H5 => rSetL o i z H5 fun H6 => D.nx σ H6
theorem w_augS {to ti : TE} {tip : TIp} (k : to σ H fun o H1 => ti σ H1 fun i H2 => AugG K te tip o i D σ H2) : tAugS to ti te (rGet K) tip rSetL D σ H := k
theorem w_augGE {tip : TIp} {j : Int} {v : V} (h : SqL K H p xs) (h0 : 0 ≤ j) (hv : xs[j.toNat]? = some v) (k : te σ H fun y H4 => tip v y H4 fun z H5 => rSetL (.ref p) (.int j) z H5 fun H6 => D.nx σ H6) : AugG K te tip (.ref p) (.int j) D σ H :=
  ⟨p, xs, j, v, rfl, rfl, h, h0, hv, k⟩
theorem w_ipI {f : Int → Int → Int} {i j : Int} (k : Q (.int (f i j)) H) : ipI f (.int i) (.int j) H Q := ⟨i, j, rfl, rfl, k⟩
/-- name op= e -/
def AugN (i : Nat) (x : V) (te : TE) (ti : TIp) (D : Ends) (σ : L2.St) (H : Hp) : Prop := te σ H fun y H1 => ti x y H1 fun z H2 => D.nx (σ.set i (some z)) H2
/-! ### divmod -/
def rDvm : List V → Hp → VK → Prop := fun xs H Q => ∃ i j, xs = [.int i, .int j] ∧ CDiv i j ∧ ∀ p, H p = none → Q (.ref p) (upd H p (.tup [.int (i / j), .int (i % j)]))
theorem call_dvm {X : Cx} : CallR X (.builtin "divmod") rDvm := call_divmod
theorem w_dvm {i j : Int} (S : Hs B M H) (h0 : 0 < j) (h1 : j < 1073741824) (k : ∀ p H', Hs B ((p, .tup [.int (i / j), .int (i % j)]) :: M) H' → Q (.ref p) H') : rDvm [.int i, .int j] H Q := ⟨i, j, rfl, ⟨h0, h1⟩, fun p hp => k p _ (S.new hp _)⟩
/-! ### a comprehension over zip(xs, ys), the pair a cell -/
theorem lc_Z {a b : Addr} {xs ys : List V} {g : TG} {tt : TT} {vs : List Nat} (S : Hs B M H) (hx : B a = some (.lst xs)) (hy : B b = some (.lst ys)) (hxy : xs.length = ys.length) (Pv : Nat → Hp → List V → Prop) (h0 : Pv 0 B [])
    (hs : ∀ (i : Nat) (x y : V) (E T : Addr) (B' : Hp) (acc : List V) (H' : Hp), xs[i]? = some x → ys[i]? = some y → acc.length ≤ i → Same B B' → Hs B' ((T, .tup [x, y]) :: (E, .lst acc) :: M) H' → Pv i B' acc → g (.ref T) (wipe σ vs) H' fun σ2 H2 => wipe σ2 vs = wipe σ vs ∧ tt σ2 H2 fun b H3 =>
      if b = true then te σ2 H3 fun y H4 => LcP B M Pv (i + 1) E y H4 else LcN B M Pv (i + 1) E H3)
    (hd : ∀ (E : Addr) (B' : Hp) (acc : List V) (H' : Hp), Same B B' → Hs B' ((E, .lst acc) :: M) H' → acc.length ≤ xs.length → Pv xs.length B' acc → Q (.ref E) H') : LcJ (Itz K a b) g tt te vs σ H Q :=
  lc_by (walk_zip (K := K) (a := a) (b := b) (xs := xs) (ys := ys) (n := xs.length) (by omega)) S Pv h0 (fun B' H' e S' => ⟨sqL_of (S'.ex _ _ (e _ _ hx)), sqL_of (S'.ex _ _ (e _ _ hy))⟩) (fun i x E B' acc H' H'' _ hl e S' pv y => by
    obtain ⟨T, u, z, rfl, h2, rfl, e1, e2⟩ := y
    exact hs i u z E T B' acc _ e1 e2 hl e (S'.new h2 _) pv) hd
end

theorem ixN_nat {n i : Nat} (h : i < n) : ixN n (i : Int) = some i := by
  unfold ixN
  rw [if_pos (by omega)]
  simp [h]
/-! ### vectors: one number a place -/
def vec (n : Nat) (f : Nat → Int) : List Int := (List.range n).map f
section
variable {n : Nat} {f g : Nat → Int}
@[simp] theorem vec_len : (vec n f).length = n := by unfold vec; simp
theorem vec_get {i : Nat} (h : i < n) : (vec n f)[i]? = some (f i) := by unfold vec; simp [h]
theorem vec_getV {i : Nat} (h : i < n) : ((vec n f).map V.int)[i]? = some (.int (f i)) := by rw [List.getElem?_map, vec_get h]; rfl
theorem vec_congr (h : ∀ i, i < n → f i = g i) : vec n f = vec n g := by
  unfold vec
  exact List.map_congr_left fun i hi => h i (List.mem_range.mp hi)
theorem vec_inj (h : vec n f = vec n g) : ∀ i, i < n → f i = g i := fun i hi => by
  have e := vec_get (f := f) hi
  rw [h, vec_get hi] at e
  exact (Option.some.inj e).symm
def put1 (f : Nat → Int) (j : Nat) (v : Int) : Nat → Int := fun i => if i = j then v else f i
theorem vec_set {j : Nat} {v : Int} (h : j < n) : (vec n f).set j v = vec n (put1 f j v) := by
  refine List.ext_getElem? fun i => ?_
  by_cases hi : i < n
  · rw [vec_get hi]
    by_cases hij : i = j
    · subst hij
      rw [List.getElem?_set_self (by simp; omega)]
      unfold put1; rw [if_pos rfl]
    · rw [List.getElem?_set_ne (Ne.symm hij), vec_get hi]
      unfold put1; rw [if_neg hij]
  · rw [List.getElem?_eq_none (by simp; omega), List.getElem?_eq_none (by simp; omega)]
theorem vec_setV {j : Nat} {v : Int} (h : j < n) : ((vec n f).map V.int).set j (.int v) = (vec n (put1 f j v)).map V.int := by
  rw [← vec_set h, List.map_set]
theorem vec_zero : List.replicate n (0 : Int) = vec n (fun _ => 0) := by
  refine List.ext_getElem? fun i => ?_
  by_cases hi : i < n
  · rw [vec_get hi, List.getElem?_replicate, if_pos hi]
  · rw [List.getElem?_eq_none (by simp; omega), List.getElem?_eq_none (by simp; omega)]
theorem vec_succ : vec (n + 1) f = vec n f ++ [f n] := by unfold vec; rw [List.range_succ, List.map_append]; rfl
end
end Rw

namespace Rw
open PySem PySem.Spec PyProof.Rows L2
def top (i : Nat) : Stmt := PySem.Challenge.pw_rotorwalk_k02_webs.main.body.getD i (.Pass ⟨0, 0, 0, 0⟩)
structure Bare (mg : Str → Option Value) : Prop where
  n_len : mg "len" = none
  n_range : mg "range" = none

/-! ### numbers -/
def mixed (c k : Int) : Int :=
  let n := (c % 1000000007 * 48271 + 7919 * k + 11) % 1000003
  n * n % 1000003 * n % 1000003
theorem mixed_nn (c k : Int) : 0 ≤ mixed c k := Int.emod_nonneg _ (by decide)
theorem mixed_lt (c k : Int) : mixed c k < 1000003 := Int.emod_lt_of_pos _ (by decide)
def spMixed : Sp := fun vs H Q _ => ∃ c k : Int, vs = [.int c, .int k] ∧ 0 ≤ k ∧ k ≤ 100000 ∧ Q (.int (mixed c k)) H
-- _law_mixed: 0 _law_cell, 1 _law_k, 2 _law_number
abbrev s_law_mixed : Stmt := top 15
theorem sc_law_mixed : FnScope ["_law_cell", "_law_k", "_law_number"] ["_law_cell", "_law_k"] (defScope s_law_mixed) := ⟨rfl, rfl, rfl, by decide +kernel, rfl, by decide +kernel, by decide +kernel⟩
section
variable {P : Program} {w : World} {K : PySem.W.Frag} {mg : Str → Option Value} {base : Heap}
theorem ok_mixed (T : Bare mg) (G : Glo K mg "_law_mixed" s_law_mixed) : Cal P w K mg base "_law_mixed" 1 ["_law_cell", "_law_k"] spMixed := by
  refine G.cal (k := 0) sc_law_mixed (fun _ _ _ _ _ _ us hl => match us, hl with | [_, _], _ => rfl) (fun vs H Q E h => ?_) (fun f cdv A outer s H vs Q E hr h => ?_)
  · obtain ⟨c, k, rfl, _⟩ := h; rfl
  obtain ⟨c, k, rfl, k0, k1, hQ⟩ := h
  refine ⟨_, (pss_cons (ps_set (i := 2) sc_law_mixed.nd rfl (Or.inl rfl) (pe_op op_mod (pe_op op_add (pe_op op_add (pe_op op_mul (pe_op op_mod (pv 0) pe_int) pe_int) (pe_op op_mul pe_int (pv 1))) pe_int) pe_int)) (pss_one (ps_ret (pe_op op_mod (pe_op op_mul (pe_op op_mod (pe_op op_mul (pv 2) (pv 2)) pe_int) (pv 2)) pe_int)))), ?_⟩
  have h1 := Int.emod_nonneg c (show (1000000007 : Int) ≠ 0 by decide)
  have h2 := Int.emod_lt_of_pos c (show (0 : Int) < 1000000007 by decide)
  refine ⟨_, rfl, _, _, rfl, rfl, by show (0 : Int) < 1000000007; decide, _, _, rfl, rfl, .inr (by decide), ?_⟩
  refine ⟨_, rfl, _, _, rfl, rfl, .inl (by decide), _, _, rfl, rfl, _, _, rfl, rfl, _, _, rfl, rfl, by show (0 : Int) < 1000003; decide, ?_⟩
  have h3 := Int.emod_nonneg (c % 1000000007 * 48271 + 7919 * k + 11) (show (1000003 : Int) ≠ 0 by decide)
  have h4 := Int.emod_lt_of_pos (c % 1000000007 * 48271 + 7919 * k + 11) (show (0 : Int) < 1000003 by decide)
  refine ⟨_, rfl, _, rfl, _, _, rfl, rfl, .inl ⟨by omega, by omega⟩, _, _, rfl, rfl, by show (0 : Int) < 1000003; decide, _, rfl, _, _, rfl, rfl, .inr ⟨by omega, by omega⟩, _, _, rfl, rfl, by show (0 : Int) < 1000003; decide, hQ⟩
end
end Rw

namespace Rw
open PySem PySem.Spec PyProof.Rows L2
local macro_rules | `(tactic| walk_at "go1") => `(tactic| first
  | (with_reducible refine w_seq ?_)
  | (with_reducible refine w_asg ?_)
  | (with_reducible refine w_name ?_)
  | (with_reducible refine w_drop ?_)
  | (with_reducible refine w_ret ?_)
  | (with_reducible refine w_next ?_)
  | (with_reducible refine w_op ?_)
  | (with_reducible refine w_un ?_)
  | (with_reducible refine w_c ?_)
  | (with_reducible refine w_var (by with_unfolding_all rfl) ?_)
  | (with_reducible refine w_rI0 ?_)
  | (with_reducible refine w_rU ?_)
  | ((with_reducible refine w_mod ?_ ?_); (show (0 : Int) < _); omega)
  | ((with_reducible refine w_div ?_ ?_); exact And.intro (by omega) (by omega))
  | ((with_reducible refine w_mul ?_ ?_); (first | exact Or.inl (And.intro (by omega) (by omega)) | exact Or.inr (And.intro (by omega) (by omega))))
  | (with_reducible refine w_ifS ?_)
  | (with_reducible refine w_if ?_)
  | (with_reducible refine w_test ?_)
  | (with_reducible refine w_B ?_)
  | (with_reducible refine w_bl ?_)
  | (with_reducible refine w_not ?_)
  | (with_reducible refine w_and ?_)
  | (with_reducible refine w_or ?_)
  | (with_reducible refine w_cons ?_)
  | (with_reducible refine w_nil ?_)
  | (with_reducible refine w_call ?_)
  | (with_reducible refine w_cb ?_)
  | (with_reducible refine w_bm0 ?_)
  | (with_reducible refine w_bm ?_)
  | (with_reducible refine w_tlst ?_)
  | (with_reducible refine w_ttup ?_)
  | (with_reducible refine w_sub ?_)
  | (with_reducible refine w_for ?_)
  | (with_reducible refine w_rng1 ?_)
  | ((with_reducible refine w_rngE ?_ ?_ ?_); omega; omega)
  | (with_reducible refine w_iL ?_)
  | (with_reducible refine w_iT ?_)
  | (with_reducible refine w_iE ?_)
  | (with_reducible refine w_iZ ?_)
  | (with_reducible refine w_lc ?_)
  | (with_reducible refine w_yes ?_)
  | (with_reducible refine w_gcons ?_)
  | (with_reducible refine w_gnil ?_)
  | (with_reducible refine w_max2 ?_)
  | (with_reducible refine w_sl ?_)
  | (with_reducible refine w_part ?_)
  | (with_reducible refine w_partI ?_)
  | (with_reducible refine w_nopart ?_)
  | (with_reducible refine w_isT ?_)
  | (with_reducible refine w_notT ?_)
  | (with_reducible refine w_isB ?_)
  | (with_reducible refine w_notB ?_)
  | (with_reducible refine w_isN ?_)
  | (with_reducible refine w_notN ?_)
  | (with_reducible refine w_fld ?_)
  | (with_reducible refine w_ftm ?_)
  | (with_reducible refine w_lrg ?_)
  | (with_reducible refine w_rg1 ?_)
  | (with_reducible refine w_rg1E ?_)
  | (with_reducible refine w_tru ?_)
  | (with_reducible refine w_truB ?_)
  | (with_reducible refine w_truI ?_)
  | (with_reducible refine w_notT' ?_)
  | (with_reducible refine w_andT ?_)
  | (with_reducible refine w_orT ?_)
  | (with_reducible refine w_andV ?_)
  | (with_reducible refine w_orV ?_)
  | (with_reducible refine w_andE ?_)
  | (with_reducible refine w_orE ?_)
  | (with_reducible refine w_notV ?_)
  | (with_reducible refine w_notE ?_)
  | (with_reducible refine w_chain ?_)
  | (with_reducible refine w_chainI ?_)
  | (with_reducible refine w_meth ?_)
  | (with_reducible refine w_make ?_)
  | (with_reducible refine w_sfld ?_))
local macro_rules | `(tactic| walk_at "go") => `(tactic| repeat walk_at "go1")

/-! ### webs -/
def cnt (m : Int) : Int := [2, 1, 3, 2, 0].getD m.toNat 0
def farAt (c k n i j : Int) : Int :=
  if mixed c (k + 20 + 3 * i + j) % 3 = 0 then (i + 1) % n else mixed c (k + 20 + 3 * i + j) / 3 % n
def rowAt (c k n : Int) (i : Nat) : List Int := (List.range (cnt (mixed c (k + 1 + i) % 5)).toNat).map fun j => farAt c k n i (j : Nat)
theorem cnt_at {m : Int} (h0 : 0 ≤ m) (h1 : m < 5) : atI [V.int 2, V.int 1, V.int 3, V.int 2, V.int 0] m = some (V.int (cnt m)) := by
  have : m = 0 ∨ m = 1 ∨ m = 2 ∨ m = 3 ∨ m = 4 := by omega
  rcases this with rfl | rfl | rfl | rfl | rfl <;> rfl
theorem cnt_le (m : Int) : 0 ≤ cnt m ∧ cnt m ≤ 3 := by
  unfold cnt
  generalize m.toNat = t
  match t with
  | 0 => decide
  | 1 => decide
  | 2 => decide
  | 3 => decide
  | 4 => decide
  | t + 5 => show (0 : Int) ≤ 0 ∧ (0 : Int) ≤ 3; decide
theorem three_at {x y : Int} {m : Int} (h0 : 0 ≤ m) (h1 : m < 3) : atI [V.int x, V.int y, V.int y] m = some (V.int (if m = 0 then x else y)) := by
  have : m = 0 ∨ m = 1 ∨ m = 2 := by omega
  rcases this with rfl | rfl | rfl <;> rfl
theorem snoc_map {α : Type} (f : Nat → α) (i : Nat) : (List.range (i + 1)).map f = (List.range i).map f ++ [f i] := by
  rw [List.range_succ, List.map_append]; rfl
def manyOf (c k : Int) : Nat := (1 + mixed c k % 8).toNat
def rows (c k : Int) : List (List Int) :=
  let b := (List.range (manyOf c k)).map (rowAt c k (1 + mixed c k % 8))
  if 0 < mixed c k / 8 % 5 then b.set (manyOf c k - 1) [] else b
def spRows (K : PySem.W.Frag) : Sp := fun vs H Q _ => ∃ (c k : Int) (B : Hp) (M : List (Addr × HO)), vs = [.int c, .int k] ∧ 0 ≤ k ∧ k ≤ 10000 ∧ Hs B M H ∧
  ∀ p B' H', Same B B' → Hs B' M H' → LL B' p (rows c k) → Q (.ref p) H'
-- _law_rows: 0 _law_cell, 1 _law_k, 2 _law_number, 3 _law_many, 4 _law_rows_here, 5 _law_place, 6 _law_more, 7 _law_row, 8 _law_j, 9 _law_far
abbrev s_law_rows : Stmt := top 17
theorem sc_law_rows : FnScope ["_law_cell", "_law_k", "_law_number", "_law_many", "_law_rows_here", "_law_place", "_law_more", "_law_row", "_law_j", "_law_far"] ["_law_cell", "_law_k"] (defScope s_law_rows) := ⟨rfl, rfl, rfl, by decide +kernel, rfl, by decide +kernel, by decide +kernel⟩
section
variable {P : Program} {w : World} {K : PySem.W.Frag} {mg : Str → Option Value} {base : Heap}
theorem ok_rows (T : Bare mg) (G : Glo K mg "_law_rows" s_law_rows) (C_law_mixed : Cal P w K mg base "_law_mixed" 1 ["_law_cell", "_law_k"] spMixed) : Cal P w K mg base "_law_rows" 2 ["_law_cell", "_law_k"] (spRows K) := by
  refine G.cal (k := 1) sc_law_rows (fun _ _ _ _ _ _ us hl => match us, hl with | [_, _], _ => rfl) (fun vs H Q E h => ?_) (fun f cdv A outer s H vs Q E hr h => ?_)
  · obtain ⟨c, k, B, M, rfl, _⟩ := h; rfl
  obtain ⟨c, k, B, M, rfl, k0, k1, S, hQ⟩ := h
  refine ⟨_, (pss_cons (ps_set (i := 2) sc_law_rows.nd rfl (Or.inl rfl) (pe_cal C_law_mixed hr rfl (pa_cons (pv 0) (pa_cons (pv 1) pa_nil)))) (pss_cons (ps_set (i := 3) sc_law_rows.nd rfl (Or.inl rfl) (pe_op op_add pe_int (pe_op op_mod (pv 2) pe_int))) (pss_cons (ps_set (i := 4) sc_law_rows.nd rfl (Or.inl rfl) (pe_lst pa_nil)) (pss_cons (ps_for PassesOwn.never rfl (pi_range1 rfl T.n_range (pa_cons (pv 3) pa_nil)) (pg_name (i := 5) sc_law_rows.nd rfl (Or.inl rfl)) (pss_cons (ps_set (i := 6) sc_law_rows.nd rfl (Or.inl rfl) (pe_cal C_law_mixed hr rfl (pa_cons (pv 0) (pa_cons (pe_op op_add (pe_op op_add (pv 1) pe_int) (pv 5)) pa_nil)))) (pss_cons (ps_set (i := 7) sc_law_rows.nd rfl (Or.inl rfl) (pe_lst pa_nil)) (pss_cons (ps_for PassesOwn.never rfl (pi_range1 rfl T.n_range (pa_cons (pe_ix (k_ixL K) (pe_lst (pa_cons pe_int (pa_cons pe_int (pa_cons pe_int (pa_cons pe_int (pa_cons pe_int pa_nil)))))) (pe_op op_mod (pv 6) pe_int) (fun _ _ => rfl)) pa_nil)) (pg_name (i := 8) sc_law_rows.nd rfl (Or.inl rfl)) (pss_cons (ps_set (i := 9) sc_law_rows.nd rfl (Or.inl rfl) (pe_cal C_law_mixed hr rfl (pa_cons (pv 0) (pa_cons (pe_op op_add (pe_op op_add (pe_op op_add (pv 1) pe_int) (pe_op op_mul pe_int (pv 5))) (pv 8)) pa_nil)))) (pss_one (ps_expr (pe_bmK K PySem.F.plainAttrs_list PySem.F.slot_list_append PySem.F.type_list_append mt_append (pv 7) (pa_cons (pe_ix (k_ixL K) (pe_lst (pa_cons (pe_op op_mod (pe_op op_add (pv 5) pe_int) (pv 3)) (pa_cons (pe_op op_mod (pe_op op_fdiv (pv 9) pe_int) (pv 3)) (pa_cons (pe_op op_mod (pe_op op_fdiv (pv 9) pe_int) (pv 3)) pa_nil)))) (pe_op op_mod (pv 9) pe_int) (fun _ _ => rfl)) pa_nil)))))) (pss_one (ps_expr (pe_bmK K PySem.F.plainAttrs_list PySem.F.slot_list_append PySem.F.type_list_append mt_append (pv 4) (pa_cons (pv 7) pa_nil)))))))) (pss_cons (ps_if (pt_cmpR op_gt (pe_op op_mod (pe_op op_fdiv (pv 2) pe_int) pe_int) pe_int (nomark _)) (pss_one (ps_asg (pe_lst pa_nil) (pg_sub (pv 4) (pe_un un_neg pe_int) set_list))) pss_nil) (pss_one (ps_ret (pv 4)))))))), ?_⟩
  walk_at "go"
  refine ⟨_, _, rfl, k0, by omega, ?_⟩
  walk_at "go"
  refine w_lst S (by decide) fun p H1 S1 => ?_
  have n0 := mixed_nn c k
  generalize en : mixed c k = n at *
  have hm0 : 1 ≤ 1 + n % 8 := by omega
  have hm1 : 1 + n % 8 ≤ 8 := by omega
  have em : manyOf c k = (1 + n % 8).toNat := by unfold manyOf; rw [en]
  have er : rows c k = if 0 < n / 8 % 5 then ((List.range (1 + n % 8).toNat).map (rowAt c k (1 + n % 8))).set ((1 + n % 8).toNat - 1) [] else (List.range (1 + n % 8).toNat).map (rowAt c k (1 + n % 8)) := by
    unfold rows; rw [em, en]
  generalize 1 + n % 8 = many at *
  walk_at "go"
  refine for_rng (fun i σ H => ∃ (B' : Hp) (as : List Addr) (v5 v6 v7 v8 v9 : Option V), Same B B' ∧ σ = [some (.int c), some (.int k), some (.int n), some (.int many), some (.ref p), v5, v6, v7, v8, v9] ∧ Hs B' ((p, .lst (as.map V.ref)) :: M) H ∧ LR B' as ((List.range i).map (rowAt c k many)))
    ⟨B, [], none, none, none, none, none, Same.refl B, rfl, S1, .nil⟩ ?_ ?_
  · rintro i σ H2 hi ⟨B', as, v5, v6, v7, v8, v9, e1, rfl, S2, hR⟩
    walk_at "go"
    refine ⟨_, _, rfl, by omega, by omega, ?_⟩
    walk_at "go"
    refine w_lst S2 (by decide) fun q H3 S3 => ?_
    walk_at "go"
    refine w_lst S3 (by decide) fun q2 H4 S4 => ?_
    have c0 := mixed_nn c (k + 1 + (i : Int))
    walk_at "go"
    have er2 : rowAt c k many i = (List.range (cnt (mixed c (k + 1 + (i : Int)) % 5)).toNat).map fun j => farAt c k many i (j : Nat) := rfl
    generalize mixed c (k + 1 + (i : Int)) = mm at *
    have hm5 : 0 ≤ mm % 5 ∧ mm % 5 < 5 := by omega
    refine w_ixL (sqL_of (S4.get 0)) (cnt_at hm5.1 hm5.2) ?_
    have hc := cnt_le (mm % 5)
    generalize cnt (mm % 5) = cn at *
    walk_at "go"
    refine for_rng (fun j σ H => ∃ (v8 v9 : Option V), σ = [some (.int c), some (.int k), some (.int n), some (.int many), some (.ref p), some (.int (i : Int)), some (.int mm), some (.ref q), v8, v9] ∧ Hs B' ((q, .lst (((List.range j).map fun j => farAt c k many i (j : Nat)).map V.int)) :: (p, .lst (as.map V.ref)) :: M) H)
      ⟨v8, v9, rfl, S4.drop 0⟩ ?_ ?_
    · rintro j σ H5 hj ⟨v8, v9, rfl, S5⟩
      walk_at "go"
      refine ⟨_, _, rfl, by omega, by omega, ?_⟩
      have f0 := mixed_nn c (k + 20 + 3 * (i : Int) + (j : Int))
      have ef : farAt c k many i (j : Nat) = if mixed c (k + 20 + 3 * (i : Int) + (j : Int)) % 3 = 0 then ((i : Int) + 1) % many else mixed c (k + 20 + 3 * (i : Int) + (j : Int)) / 3 % many := rfl
      generalize mixed c (k + 20 + 3 * (i : Int) + (j : Int)) = ff at *
      walk_at "go"
      refine ⟨tyL (sqL_of (S5.get 0)), ?_⟩
      walk_at "go"
      refine w_lst S5 (len_ok (by simp)) fun z H6 S6 => ?_
      walk_at "go"
      refine w_ixL (sqL_of (S6.get 0)) (three_at (by omega) (by omega)) ?_
      walk_at "go"
      refine w_append (S6.drop 0) 0 rfl (len_lt (by simp; omega)) fun H7 S7 => ?_
      refine ⟨some (.int (j : Int)), some (.int ff), rfl, ?_⟩
      rw [snoc_map, ef, List.map_append]
      exact S7
    · rintro σ H5 ⟨v8, v9, rfl, S5⟩
      walk_at "go"
      refine ⟨tyL (sqL_of (S5.get 1)), ?_⟩
      walk_at "go"
      refine w_append S5 1 rfl (len_lt (by have := hR.length; simp at this; simp; omega)) fun H6 S6 => ?_
      obtain ⟨B2, eB, hq, S7⟩ := S6.shut 0
      refine ⟨B2, as ++ [q], some (.int (i : Int)), some (.int mm), some (.ref q), v8, v9, e1.trans eB, rfl, ?_, ?_⟩
      · rw [List.map_append]; exact S7
      · rw [snoc_map, er2]
        exact (hR.mono eB).snoc hq
  · rintro σ H2 ⟨B', as, v5, v6, v7, v8, v9, e1, rfl, S2, hR⟩
    have hlen : as.length = many.toNat := by have := hR.length; simpa using this
    walk_at "go"
    refine ite2 (fun hc => ?_) (fun hc => ?_)
    · have hc := of_decide_eq_true hc
      walk_at "go"
      refine w_lst S2 (by decide) fun q H3 S3 => ?_
      walk_at "go"
      refine w_setL S3 1 rfl (n := many.toNat - 1) ?_ fun H4 S4 => ?_
      · unfold ixN
        rw [if_neg (by decide), if_pos (by rw [List.length_map, hlen]; omega), List.length_map, hlen]
        congr 1
        omega
      walk_at "go"
      obtain ⟨B2, eB, hq, S5⟩ := S4.shut 0
      obtain ⟨B3, eB3, hp, S6⟩ := S5.shut 0
      refine hQ p _ _ ((e1.trans eB).trans eB3) S6 ⟨as.set (many.toNat - 1) q, ?_, ?_⟩
      · rw [hp, List.map_set]
      · rw [er, if_pos hc]
        exact ((hR.mono eB).set hq).mono eB3
    · have hc : ¬ 0 < n / 8 % 5 := fun q => hc (decide_eq_true q)
      walk_at "go"
      obtain ⟨B3, eB3, hp, S6⟩ := S2.shut 0
      refine hQ p _ _ (e1.trans eB3) S6 ⟨as, hp, ?_⟩
      rw [er, if_neg hc]
      exact hR.mono eB3
end
end Rw

namespace Rw
open PySem PySem.Spec PyProof.Rows L2
local macro_rules | `(tactic| walk_at "go1") => `(tactic| first
  | (with_reducible refine w_seq ?_)
  | (with_reducible refine w_asg ?_)
  | (with_reducible refine w_name ?_)
  | (with_reducible refine w_drop ?_)
  | (with_reducible refine w_ret ?_)
  | (with_reducible refine w_next ?_)
  | (with_reducible refine w_op ?_)
  | (with_reducible refine w_un ?_)
  | (with_reducible refine w_c ?_)
  | (with_reducible refine w_var (by with_unfolding_all rfl) ?_)
  | (with_reducible refine w_rI0 ?_)
  | (with_reducible refine w_rU ?_)
  | ((with_reducible refine w_mod ?_ ?_); (show (0 : Int) < _); omega)
  | ((with_reducible refine w_div ?_ ?_); exact And.intro (by omega) (by omega))
  | ((with_reducible refine w_mul ?_ ?_); (first | exact Or.inl (And.intro (by omega) (by omega)) | exact Or.inr (And.intro (by omega) (by omega))))
  | (with_reducible refine w_ifS ?_)
  | (with_reducible refine w_if ?_)
  | (with_reducible refine w_test ?_)
  | (with_reducible refine w_B ?_)
  | (with_reducible refine w_bl ?_)
  | (with_reducible refine w_not ?_)
  | (with_reducible refine w_and ?_)
  | (with_reducible refine w_or ?_)
  | (with_reducible refine w_cons ?_)
  | (with_reducible refine w_nil ?_)
  | (with_reducible refine w_call ?_)
  | (with_reducible refine w_cb ?_)
  | (with_reducible refine w_bm0 ?_)
  | (with_reducible refine w_bm ?_)
  | (with_reducible refine w_tlst ?_)
  | (with_reducible refine w_ttup ?_)
  | (with_reducible refine w_sub ?_)
  | (with_reducible refine w_for ?_)
  | (with_reducible refine w_rng1 ?_)
  | ((with_reducible refine w_rngE ?_ ?_ ?_); omega; omega)
  | (with_reducible refine w_iL ?_)
  | (with_reducible refine w_iT ?_)
  | (with_reducible refine w_iE ?_)
  | (with_reducible refine w_iZ ?_)
  | (with_reducible refine w_lc ?_)
  | (with_reducible refine w_yes ?_)
  | (with_reducible refine w_gcons ?_)
  | (with_reducible refine w_gnil ?_)
  | (with_reducible refine w_max2 ?_)
  | (with_reducible refine w_sl ?_)
  | (with_reducible refine w_part ?_)
  | (with_reducible refine w_partI ?_)
  | (with_reducible refine w_nopart ?_)
  | (with_reducible refine w_isT ?_)
  | (with_reducible refine w_notT ?_)
  | (with_reducible refine w_isB ?_)
  | (with_reducible refine w_notB ?_)
  | (with_reducible refine w_isN ?_)
  | (with_reducible refine w_notN ?_)
  | (with_reducible refine w_fld ?_)
  | (with_reducible refine w_ftm ?_)
  | (with_reducible refine w_lrg ?_)
  | (with_reducible refine w_rg1 ?_)
  | (with_reducible refine w_rg1E ?_)
  | (with_reducible refine w_tru ?_)
  | (with_reducible refine w_truB ?_)
  | (with_reducible refine w_truI ?_)
  | (with_reducible refine w_notT' ?_)
  | (with_reducible refine w_andT ?_)
  | (with_reducible refine w_orT ?_)
  | (with_reducible refine w_andV ?_)
  | (with_reducible refine w_orV ?_)
  | (with_reducible refine w_andE ?_)
  | (with_reducible refine w_orE ?_)
  | (with_reducible refine w_notV ?_)
  | (with_reducible refine w_notE ?_)
  | (with_reducible refine w_chain ?_)
  | (with_reducible refine w_chainI ?_)
  | (with_reducible refine w_meth ?_)
  | (with_reducible refine w_make ?_)
  | (with_reducible refine w_sfld ?_))
local macro_rules | `(tactic| walk_at "go") => `(tactic| repeat walk_at "go1")

structure Names (mg : Str → Option Value) : Prop where
  n_len : mg "len" = none
  n_range : mg "range" = none
  n_type : mg "type" = none
  n_list : mg "list" = none
  n_tuple : mg "tuple" = none
  n_int : mg "int" = none
  n_all : mg "all" = none
  n_any : mg "any" = none
  n_sum : mg "sum" = none
  n_max : mg "max" = none
  n_zip : mg "zip" = none
  n_enumerate : mg "enumerate" = none
  n_divmod : mg "divmod" = none
  c_MOST_PLACES : ∃ t, mg "MOST_PLACES" = some (.int 8 t)
  c_MOST_WAYS : ∃ t, mg "MOST_WAYS" = some (.int 3 t)
/-! ### what a web is -/
structure Valid (rows : List (List Int)) : Prop where
  pos : 1 ≤ rows.length
  le : rows.length ≤ 8
  row : ∀ r ∈ rows, r.length ≤ 3 ∧ ∀ x ∈ r, 0 ≤ x ∧ x < (rows.length : Int)
theorem all_true : ∀ n, (List.replicate n true).all id = true
  | 0 => rfl
  | n + 1 => by rw [List.replicate_succ, List.all_cons, all_true n]; rfl
/-! ### things of any kind -/
inductive TyH (H : Hp) : V → String → Prop where
  | non : TyH H .non "NoneType"
  | bl (b : Bool) : TyH H (.bl b) "bool"
  | int (i : Int) : TyH H (.int i) "int"
  | str (x : Str) : TyH H (.str x) "str"
  | lst {a : Addr} {xs : List V} (h : H a = some (.lst xs)) : TyH H (.ref a) "list"
  | tup {a : Addr} {xs : List V} (h : H a = some (.tup xs)) : TyH H (.ref a) "tuple"
  | dK {a : Addr} {kvs : List (Key × V)} (h : H a = some (.dK kvs)) : TyH H (.ref a) "dict"
theorem TyH.toB {K : PySem.W.Frag} {H : Hp} {v : V} {T : String} (t : TyH H v T) : TyB K H v T := by
  cases t with
  | non => exact .non
  | bl b => exact .bl b
  | int i => exact .int i
  | str x => exact .str x
  | lst h => exact .lst (sqL_of h)
  | tup h => exact .tup (sqT_of h)
  | dK h => exact .dK h
theorem TyH.mono {H H' : Hp} {v : V} {T : String} (e : Same H H') (t : TyH H v T) : TyH H' v T := by
  cases t with
  | non => exact .non
  | bl b => exact .bl b
  | int i => exact .int i
  | str x => exact .str x
  | lst h => exact .lst (e _ _ h)
  | tup h => exact .tup (e _ _ h)
  | dK h => exact .dK (e _ _ h)
/-- whether a thing is a place of m ones -/
inductive PlD (H : Hp) (m : Int) : V → Bool → Prop where
  | int (i : Int) : PlD H m (.int i) (decide (0 ≤ i ∧ i < m))
  | oth {v : V} {T : String} (t : TyH H v T) (h : T ≠ "int") : PlD H m v false
theorem PlD.mono {H H' : Hp} {m : Int} {v : V} {b : Bool} (e : Same H H') (h : PlD H m v b) : PlD H' m v b := by
  cases h with
  | int i => exact .int i
  | oth t h => exact .oth (t.mono e) h
/-- whether things are as told -/
inductive AllD (R : V → Bool → Prop) : List V → List Bool → Prop where
  | nil : AllD R [] []
  | cons {v : V} {b : Bool} {vs : List V} {bs : List Bool} (h : R v b) (t : AllD R vs bs) : AllD R (v :: vs) (b :: bs)
theorem AllD.imp {R S : V → Bool → Prop} (f : ∀ v b, R v b → S v b) {vs : List V} {bs : List Bool} (h : AllD R vs bs) : AllD S vs bs := by
  induction h with
  | nil => exact .nil
  | cons h _ ih => exact .cons (f _ _ h) ih
theorem AllD.length {R : V → Bool → Prop} {vs : List V} {bs : List Bool} (h : AllD R vs bs) : vs.length = bs.length := by
  induction h with
  | nil => rfl
  | cons h _ ih => simp [ih]
theorem AllD.get {R : V → Bool → Prop} {vs : List V} {bs : List Bool} (h : AllD R vs bs) : ∀ {i : Nat} {v : V}, vs[i]? = some v → ∃ b, bs[i]? = some b ∧ R v b := by
  induction h with
  | nil => intro i v e; simp at e
  | cons h _ ih =>
    intro i v e
    cases i with
    | zero => simp at e; subst e; exact ⟨_, rfl, h⟩
    | succ i => exact ih (by simpa using e)
inductive RwD (H : Hp) (m : Int) : V → Bool → Prop where
  | lst {a : Addr} {xs : List V} {bs : List Bool} (h : H a = some (.lst xs)) (t : AllD (PlD H m) xs bs) : RwD H m (.ref a) (decide (xs.length ≤ 3) && bs.all id)
  | oth {v : V} {T : String} (t : TyH H v T) (h : T ≠ "list") : RwD H m v false
theorem RwD.mono {H H' : Hp} {m : Int} {v : V} {b : Bool} (e : Same H H') (h : RwD H m v b) : RwD H' m v b := by
  cases h with
  | lst h t => exact .lst (e _ _ h) (t.imp fun _ _ => PlD.mono e)
  | oth t h => exact .oth (t.mono e) h
inductive WbD (H : Hp) : V → Bool → Prop where
  | lst {a : Addr} {xs : List V} {bs : List Bool} (h : H a = some (.lst xs)) (t : AllD (RwD H (xs.length : Nat)) xs bs) : WbD H (.ref a) (decide (1 ≤ xs.length ∧ xs.length ≤ 8) && bs.all id)
  | oth {v : V} {T : String} (t : TyH H v T) (h : T ≠ "list") : WbD H v false
theorem WbD.mono {H H' : Hp} {v : V} {b : Bool} (e : Same H H') (h : WbD H v b) : WbD H' v b := by
  cases h with
  | lst h t => exact .lst (e _ _ h) (t.imp fun _ _ => RwD.mono e)
  | oth t h => exact .oth (t.mono e) h
/-- whether a thing is a number from lo to hi -/
inductive NmD (H : Hp) (lo hi : Int) : V → Bool → Prop where
  | int (i : Int) : NmD H lo hi (.int i) (decide (lo ≤ i ∧ i ≤ hi))
  | oth {v : V} {T : String} (t : TyH H v T) (h : T ≠ "int") : NmD H lo hi v false
theorem NmD.mono {H H' : Hp} {lo hi : Int} {v : V} {b : Bool} (e : Same H H') (h : NmD H lo hi v b) : NmD H' lo hi v b := by
  cases h with
  | int i => exact .int i
  | oth t h => exact .oth (t.mono e) h
theorem PlD.num {H : Hp} {m : Int} {v : V} {b : Bool} (h : PlD H m v b) : NmD H 0 (m - 1) v b := by
  cases h with
  | int i =>
    have e : decide (0 ≤ i ∧ i < m) = decide (0 ≤ i ∧ i ≤ m - 1) := decide_eq_decide.mpr ⟨fun q => ⟨q.1, by omega⟩, fun q => ⟨q.1, by omega⟩⟩
    rw [e]
    exact .int i
  | oth t h => exact .oth t h
def spNum : Sp := fun vs H Q _ => ∃ (v : V) (lo hi : Int) (b : Bool), vs = [v, .int lo, .int hi] ∧ NmD H lo hi v b ∧ Q (.bl b) H
def spIsRowD : Sp := fun vs H Q _ => ∃ (B : Hp) (M : List (Addr × HO)) (v : V) (m : Int) (b : Bool), vs = [v, .int m] ∧ Hs B M H ∧ RwD B m v b ∧ ∀ H', Hs B M H' → Q (.bl b) H'
def spIsWebD : Sp := fun vs H Q _ => ∃ (B : Hp) (M : List (Addr × HO)) (v : V) (b : Bool), vs = [v] ∧ Hs B M H ∧ WbD B v b ∧ ∀ H', Hs B M H' → Q (.bl b) H'
/-! what is good -/
theorem allD_ints {H : Hp} {m : Int} : ∀ {r : List Int}, (∀ x ∈ r, 0 ≤ x ∧ x < m) → AllD (PlD H m) (r.map V.int) (List.replicate r.length true)
  | [], _ => .nil
  | x :: r, h => by
    have e : PlD H m (.int x) true := by
      rw [← decide_eq_true (h x List.mem_cons_self)]
      exact .int x
    exact .cons e (allD_ints fun y hy => h y (List.mem_cons_of_mem _ hy))
theorem rwD_good {H : Hp} {m : Int} {a : Addr} {r : List Int} (h : LI H a r) (hl : r.length ≤ 3) (hx : ∀ x ∈ r, 0 ≤ x ∧ x < m) : RwD H m (.ref a) true := by
  have e := RwD.lst h (allD_ints hx)
  rw [all_true, decide_eq_true (by simpa using hl)] at e
  exact e
theorem allD_rows {H : Hp} {m : Int} : ∀ {as : List Addr} {rows : List (List Int)}, LR H as rows → (∀ r ∈ rows, r.length ≤ 3 ∧ ∀ x ∈ r, 0 ≤ x ∧ x < m) → AllD (RwD H m) (as.map V.ref) (List.replicate rows.length true)
  | _, _, .nil, _ => .nil
  | _, _, .cons h t, hv => .cons (rwD_good h (hv _ List.mem_cons_self).1 (hv _ List.mem_cons_self).2) (allD_rows t fun r hr => hv r (List.mem_cons_of_mem _ hr))
theorem wbD_good {H : Hp} {a : Addr} {rows : List (List Int)} (h : LL H a rows) (hv : Valid rows) : WbD H (.ref a) true := by
  obtain ⟨as, h1, h2⟩ := h
  have hl := h2.length
  have hp := hv.pos
  have hle := hv.le
  have e := WbD.lst h1 (allD_rows (m := ((as.map V.ref).length : Nat)) h2 (by simpa [hl] using hv.row))
  rw [all_true, decide_eq_true (by simp; omega)] at e
  exact e
theorem bs_snoc {bs : List Bool} {b : Bool} {i : Nat} (h : bs[i]? = some b) : (bs.take (i + 1)).map V.bl = (bs.take i).map V.bl ++ [.bl b] := by
  rw [List.take_add_one, h, List.map_append]; rfl
-- is_number: 0 thing, 1 least, 2 most
abbrev s_is_number : Stmt := top 5
theorem sc_is_number : FnScope ["thing", "least", "most"] ["thing", "least", "most"] (defScope s_is_number) := ⟨rfl, rfl, rfl, by decide +kernel, rfl, by decide +kernel, by decide +kernel⟩
-- _is_row: 0 thing, 1 many, 2 place
abbrev s_is_row : Stmt := top 10
theorem sc_is_row : FnScope ["thing", "many", "place"] ["thing", "many"] (defScope s_is_row) := ⟨rfl, rfl, rfl, by decide +kernel, rfl, by decide +kernel, by decide +kernel⟩
-- is_web: 0 thing, 1 row
abbrev s_is_web : Stmt := top 9
theorem sc_is_web : FnScope ["thing", "row"] ["thing"] (defScope s_is_web) := ⟨rfl, rfl, rfl, by decide +kernel, rfl, by decide +kernel, by decide +kernel⟩
section
variable {P : Program} {w : World} {K : PySem.W.Frag} {mg : Str → Option Value} {base : Heap}
theorem ok_num (T : Names mg) (G : Glo K mg "is_number" s_is_number) : Cal P w K mg base "is_number" 1 ["thing", "least", "most"] spNum := by
  refine G.cal (k := 0) sc_is_number (fun _ _ _ _ _ _ us hl => match us, hl with | [_, _, _], _ => rfl) (fun vs H Q E h => ?_) (fun f cdv A outer s H vs Q E hr h => ?_)
  · obtain ⟨v, lo, hi, b, rfl, _⟩ := h; rfl
  obtain ⟨v, lo, hi, b, rfl, hd, hQ⟩ := h
  refine ⟨_, (pss_one (ps_ret (pe_and (pe_cmpR op_isTX (pe_callTy (k_type K) rfl T.n_type (by decide +kernel) (pa_cons (pv 0) pa_nil)) (pe_bltn (v := .ty "int") rfl T.n_int (by decide +kernel) rfl) (nomark _)) (pe_one (pe_chain op_le op_le (pv 1) (pv 0) (pv 2)))))), ?_⟩
  walk_at "go"
  cases hd with
  | int i =>
    refine w_typ (.int i) ?_
    walk_at "go"
    refine iteP rfl ?_
    walk_at "go"
    refine ite3 (fun h => ?_) (fun h => ?_)
    · walk_at "go"
      rw [show decide (i ≤ hi) = decide (lo ≤ i ∧ i ≤ hi) from decide_eq_decide.mpr ⟨fun q => ⟨h, q⟩, fun q => q.2⟩]
      exact hQ
    · rw [show decide (lo ≤ i ∧ i ≤ hi) = false from decide_eq_false fun q => h q.1] at hQ
      exact hQ
  | oth t h =>
    refine w_typ t.toB ?_
    walk_at "go"
    refine iteN h ?_
    exact hQ
theorem ok_is_rowD (T : Names mg) (G : Glo K mg "_is_row" s_is_row) (C_is_number : Cal P w K mg base "is_number" 1 ["thing", "least", "most"] spNum) : Cal P w K mg base "_is_row" 2 ["thing", "many"] spIsRowD := by
  obtain ⟨tw, c_MOST_WAYS⟩ := T.c_MOST_WAYS
  refine G.cal (k := 1) sc_is_row (fun _ _ _ _ _ _ us hl => match us, hl with | [_, _], _ => rfl) (fun vs H Q E h => ?_) (fun f cdv A outer s H vs Q E hr h => ?_)
  · obtain ⟨B, M, a, r, m, rfl, _⟩ := h; rfl
  obtain ⟨B, M, v, m, b, rfl, S, hd, hQ⟩ := h
  refine ⟨_, (pss_cons (ps_if (PW.pt (pw_or (pt_cmpR op_notTyB (pe_callTy (k_type K) rfl T.n_type (by decide +kernel) (pa_cons (pv 0) pa_nil)) (pe_bltn (v := .ty "list") rfl T.n_list (by decide +kernel) rfl) (nomark _)) (pw_or1 (pt_cmpR op_gt (pe_callB (k_len K) rfl T.n_len boot_len (pa_cons (pv 0) pa_nil)) (pe_glob (v := .int 3) rfl c_MOST_WAYS ⟨_, rfl⟩) (nomark _))))) (pss_one (ps_ret pe_bl)) pss_nil) (pss_one (ps_ret (pe_callB (k_all K rfl) rfl T.n_all (by decide +kernel) (pa_cons (pe_lc (own := [("place", 2)]) rfl sc_is_row.nd (pi_listK K (pv 0)) (blkOk_by (own := [("place", 2)]) (N := ["thing", "many", "place"]) (sc := defScope s_is_row) (by decide +kernel)) (fun _ _ _ _ _ => (pg_name (i := 2) sc_is_row.nd rfl (Or.inl rfl))) (fun _ _ _ _ _ => pts_nil) (fun _ _ _ _ _ => (pe_cal C_is_number hr rfl (pa_cons (pv 2) (pa_cons pe_int (pa_cons (pe_op op_sub (pv 1) pe_int) pa_nil)))))) pa_nil))))), ?_⟩
  walk_at "go"
  cases hd with
  | @oth _ T t h =>
    refine w_typ (t.mono S.ex).toB ?_
    walk_at "go"
    rw [decide_eq_false h]
    refine iteT ?_
    exact hQ _ S
  | @lst a xs bs hr0 ht =>
    have hlb := ht.length
    refine w_typ (.lst (sqL_of (S.ex _ _ hr0))) ?_
    walk_at "go"
    refine iteF ?_
    walk_at "go"
    refine w_len (sqL_of (S.ex _ _ hr0)) ?_
    walk_at "go"
    refine ite3 (fun h3 => ?_) (fun h3 => ?_)
    · walk_at "go"
      rw [decide_eq_false (by omega)] at hQ
      exact hQ _ S
    rw [decide_eq_true (by omega), Bool.true_and] at hQ
    walk_at "go"
    refine w_iLE (sqL_of (S.ex _ _ hr0)) ?_
    refine lc_L S hr0 (fun i B' acc => B' = B ∧ acc = (bs.take i).map V.bl) ⟨rfl, rfl⟩ ?_ ?_
    · rintro i x D B' acc H' hi hli e S' ⟨rfl, rfl⟩
      obtain ⟨b, hb, hp⟩ := ht.get hi
      have hil : i < xs.length := (List.getElem?_eq_some_iff.mp hi).1
      walk_at "go"
      refine ⟨rfl, ?_⟩
      walk_at "go"
      refine iteT ?_
      walk_at "go"
      refine ⟨x, 0, m - 1, b, rfl, (hp.mono S'.ex).num, ?_⟩
      exact lcp S' (Same.refl _) hli (by omega) ⟨rfl, (bs_snoc hb).symm⟩
    · rintro D B' acc H' e S' hli ⟨rfl, rfl⟩
      walk_at "go"
      refine w_all (sqL_of (S'.get 0)) ?_
      rw [List.take_of_length_le (by omega)]
      exact hQ _ (S'.drop 0)
theorem ok_is_webD (T : Names mg) (G : Glo K mg "is_web" s_is_web) (C_is_row : Cal P w K mg base "_is_row" 2 ["thing", "many"] spIsRowD) : Cal P w K mg base "is_web" 3 ["thing"] spIsWebD := by
  obtain ⟨tw, c_MOST_PLACES⟩ := T.c_MOST_PLACES
  refine G.cal (k := 2) sc_is_web (fun _ _ _ _ _ _ us hl => match us, hl with | [_], _ => rfl) (fun vs H Q E h => ?_) (fun f cdv A outer s H vs Q E hr h => ?_)
  · obtain ⟨B, M, a, r, rfl, _⟩ := h; rfl
  obtain ⟨B, M, v, b, rfl, S, hd, hQ⟩ := h
  refine ⟨_, (pss_cons (ps_if (PW.pt (pw_or (pt_cmpR op_notTyB (pe_callTy (k_type K) rfl T.n_type (by decide +kernel) (pa_cons (pv 0) pa_nil)) (pe_bltn (v := .ty "list") rfl T.n_list (by decide +kernel) rfl) (nomark _)) (pw_or1 (pt_not (pt_chain op_le op_le pe_int (pe_callB (k_len K) rfl T.n_len boot_len (pa_cons (pv 0) pa_nil)) (pe_glob (v := .int 8) rfl c_MOST_PLACES ⟨_, rfl⟩)))))) (pss_one (ps_ret pe_bl)) pss_nil) (pss_one (ps_ret (pe_callB (k_all K rfl) rfl T.n_all (by decide +kernel) (pa_cons (pe_lc (own := [("row", 1)]) rfl sc_is_web.nd (pi_listK K (pv 0)) (blkOk_by (own := [("row", 1)]) (N := ["thing", "row"]) (sc := defScope s_is_web) (by decide +kernel)) (fun _ _ _ _ _ => (pg_name (i := 1) sc_is_web.nd rfl (Or.inl rfl))) (fun _ _ _ _ _ => pts_nil) (fun _ _ _ _ _ => (pe_cal C_is_row hr rfl (pa_cons (pv 1) (pa_cons (pe_callB (k_len K) rfl T.n_len boot_len (pa_cons (pv 0) pa_nil)) pa_nil))))) pa_nil))))), ?_⟩
  walk_at "go"
  cases hd with
  | @oth _ T t h =>
    refine w_typ (t.mono S.ex).toB ?_
    walk_at "go"
    rw [decide_eq_false h]
    refine iteT ?_
    exact hQ _ S
  | @lst a xs bs hr0 ht =>
    have hlb := ht.length
    refine w_typ (.lst (sqL_of (S.ex _ _ hr0))) ?_
    walk_at "go"
    refine iteF ?_
    walk_at "go"
    refine w_len (sqL_of (S.ex _ _ hr0)) ?_
    walk_at "go"
    refine ite3 (fun h3 => ?_) (fun h3 => ?_)
    · walk_at "go"
      by_cases h8 : (xs.length : Int) ≤ 8
      · rw [decide_eq_true h8]
        rw [decide_eq_true (by omega), Bool.true_and] at hQ
        refine iteF ?_
        walk_at "go"
        refine w_iLE (sqL_of (S.ex _ _ hr0)) ?_
        refine lc_L S hr0 (fun i B' acc => B' = B ∧ acc = (bs.take i).map V.bl) ⟨rfl, rfl⟩ ?_ ?_
        · rintro i x D B' acc H' hi hli e S' ⟨rfl, rfl⟩
          obtain ⟨b, hb, hp⟩ := ht.get hi
          have hil : i < xs.length := (List.getElem?_eq_some_iff.mp hi).1
          walk_at "go"
          refine ⟨rfl, ?_⟩
          walk_at "go"
          refine iteT ?_
          walk_at "go"
          refine w_len (sqL_of (S'.ex _ _ hr0)) ?_
          walk_at "go"
          refine ⟨_, _, x, _, b, rfl, S', hp, fun H2 S2 => ?_⟩
          exact lcp S2 (Same.refl _) hli (by omega) ⟨rfl, (bs_snoc hb).symm⟩
        · rintro D B' acc H' e S' hli ⟨rfl, rfl⟩
          walk_at "go"
          refine w_all (sqL_of (S'.get 0)) ?_
          rw [List.take_of_length_le (by omega)]
          exact hQ _ (S'.drop 0)
      · rw [decide_eq_false h8]
        rw [decide_eq_false (by omega)] at hQ
        refine iteT ?_
        exact hQ _ S
    · rw [decide_eq_false (by omega)] at hQ
      refine ⟨false, rfl, ?_⟩
      refine iteT ?_
      exact hQ _ S
end
end Rw

namespace Rw
open PySem PySem.Spec PyProof.Rows L2
local macro_rules | `(tactic| walk_at "go1") => `(tactic| first
  | (with_reducible refine w_seq ?_)
  | (with_reducible refine w_asg ?_)
  | (with_reducible refine w_name ?_)
  | (with_reducible refine w_drop ?_)
  | (with_reducible refine w_ret ?_)
  | (with_reducible refine w_next ?_)
  | (with_reducible refine w_op ?_)
  | (with_reducible refine w_un ?_)
  | (with_reducible refine w_c ?_)
  | (with_reducible refine w_var (by with_unfolding_all rfl) ?_)
  | (with_reducible refine w_rI0 ?_)
  | (with_reducible refine w_rU ?_)
  | ((with_reducible refine w_mod ?_ ?_); (show (0 : Int) < _); omega)
  | ((with_reducible refine w_div ?_ ?_); exact And.intro (by omega) (by omega))
  | ((with_reducible refine w_mul ?_ ?_); (first | exact Or.inl (And.intro (by omega) (by omega)) | exact Or.inr (And.intro (by omega) (by omega))))
  | (with_reducible refine w_ifS ?_)
  | (with_reducible refine w_if ?_)
  | (with_reducible refine w_test ?_)
  | (with_reducible refine w_B ?_)
  | (with_reducible refine w_bl ?_)
  | (with_reducible refine w_not ?_)
  | (with_reducible refine w_and ?_)
  | (with_reducible refine w_or ?_)
  | (with_reducible refine w_cons ?_)
  | (with_reducible refine w_nil ?_)
  | (with_reducible refine w_call ?_)
  | (with_reducible refine w_cb ?_)
  | (with_reducible refine w_bm0 ?_)
  | (with_reducible refine w_bm ?_)
  | (with_reducible refine w_tlst ?_)
  | (with_reducible refine w_ttup ?_)
  | (with_reducible refine w_sub ?_)
  | (with_reducible refine w_for ?_)
  | (with_reducible refine w_rng1 ?_)
  | ((with_reducible refine w_rngE ?_ ?_ ?_); omega; omega)
  | (with_reducible refine w_iL ?_)
  | (with_reducible refine w_iT ?_)
  | (with_reducible refine w_iE ?_)
  | (with_reducible refine w_iZ ?_)
  | (with_reducible refine w_lc ?_)
  | (with_reducible refine w_yes ?_)
  | (with_reducible refine w_gcons ?_)
  | (with_reducible refine w_gnil ?_)
  | (with_reducible refine w_max2 ?_)
  | (with_reducible refine w_sl ?_)
  | (with_reducible refine w_part ?_)
  | (with_reducible refine w_partI ?_)
  | (with_reducible refine w_nopart ?_)
  | (with_reducible refine w_isT ?_)
  | (with_reducible refine w_notT ?_)
  | (with_reducible refine w_isB ?_)
  | (with_reducible refine w_notB ?_)
  | (with_reducible refine w_isN ?_)
  | (with_reducible refine w_notN ?_)
  | (with_reducible refine w_fld ?_)
  | (with_reducible refine w_ftm ?_)
  | (with_reducible refine w_lrg ?_)
  | (with_reducible refine w_rg1 ?_)
  | (with_reducible refine w_rg1E ?_)
  | (with_reducible refine w_tru ?_)
  | (with_reducible refine w_truB ?_)
  | (with_reducible refine w_truI ?_)
  | (with_reducible refine w_notT' ?_)
  | (with_reducible refine w_andT ?_)
  | (with_reducible refine w_orT ?_)
  | (with_reducible refine w_andV ?_)
  | (with_reducible refine w_orV ?_)
  | (with_reducible refine w_andE ?_)
  | (with_reducible refine w_orE ?_)
  | (with_reducible refine w_notV ?_)
  | (with_reducible refine w_notE ?_)
  | (with_reducible refine w_chain ?_)
  | (with_reducible refine w_chainI ?_)
  | (with_reducible refine w_meth ?_)
  | (with_reducible refine w_make ?_)
  | (with_reducible refine w_sfld ?_))
local macro_rules | `(tactic| walk_at "go") => `(tactic| repeat walk_at "go1")

/-! ### the ways as tuples -/
def TR (H : Hp) (ts : List Addr) (rows : List (List Int)) : Prop := Paired (fun t r => FT H t (r.map V.int)) ts rows
def TW (H : Hp) (t : Addr) (rows : List (List Int)) : Prop := ∃ ts : List Addr, FT H t (ts.map V.ref) ∧ TR H ts rows
theorem TR.mono {H H' : Hp} (e : Same H H') : ∀ {ts : List Addr} {rows : List (List Int)}, TR H ts rows → TR H' ts rows
  | _, _, .nil => .nil
  | _, _, .cons r t => .cons (r.mono e) (TR.mono e t)
theorem TW.mono {H H' : Hp} (e : Same H H') {t : Addr} {rows : List (List Int)} (h : TW H t rows) : TW H' t rows := by
  obtain ⟨ts, h1, h2⟩ := h
  exact ⟨ts, h1.mono e, h2.mono e⟩
theorem TR.length {H : Hp} {ts : List Addr} {rows : List (List Int)} (h : TR H ts rows) : ts.length = rows.length := Paired.length h
theorem TR.snoc {H : Hp} : ∀ {ts : List Addr} {rows : List (List Int)} {a : Addr} {r : List Int}, TR H ts rows → FT H a (r.map V.int) → TR H (ts ++ [a]) (rows ++ [r])
  | _, _, _, _, .nil, h => .cons h .nil
  | _, _, _, _, .cons r t, h => .cons r (TR.snoc t h)
theorem TR.get {H : Hp} : ∀ {ts : List Addr} {rows : List (List Int)} {i : Nat} {r : List Int}, TR H ts rows → rows[i]? = some r → ∃ a, ts[i]? = some a ∧ FT H a (r.map V.int)
  | _, _, _, _, .nil, e => by simp at e
  | _, _, 0, r, .cons h t, e => by simp at e; subst e; exact ⟨_, rfl, h⟩
  | _, _, i + 1, r, .cons h t, e => by
    obtain ⟨a, h1, h2⟩ := TR.get (i := i) t (by simpa using e)
    exact ⟨a, by simpa using h1, h2⟩
/-! ### coming from a place to another -/
inductive Rch (rows : List (List Int)) (a : Int) : Int → Prop where
  | refl : Rch rows a a
  | step {b c : Int} {r : List Int} : Rch rows a b → 0 ≤ b → rows[b.toNat]? = some r → c ∈ r → Rch rows a c
theorem Valid.way {rows : List (List Int)} (v : Valid rows) {b c : Int} {r : List Int} (h : rows[b.toNat]? = some r) (hc : c ∈ r) : 0 ≤ c ∧ c < (rows.length : Int) := (v.row r (List.mem_of_getElem? h)).2 c hc
theorem Rch.range {rows : List (List Int)} (v : Valid rows) {a b : Int} (h : Rch rows a b) (h0 : 0 ≤ a ∧ a < (rows.length : Int)) : 0 ≤ b ∧ b < (rows.length : Int) := by
  cases h with
  | refl => exact h0
  | step h1 h2 h3 h4 => exact v.way h3 h4
/-- one place's ways are looked at -/
def visit1 (s : List Int × List Int) (c : Int) : List Int × List Int := if c ∈ s.1 then s else (s.1 ++ [c], s.2 ++ [c])
structure Seen (rows : List (List Int)) (a : Int) (R W : List Int) : Prop where
  nd : R.Nodup
  wd : W.Nodup
  st : a ∈ R
  sub : ∀ x ∈ W, x ∈ R
  ok : ∀ x ∈ R, 0 ≤ x ∧ x < (rows.length : Int) ∧ Rch rows a x
  done : ∀ x ∈ R, x ∈ W ∨ ∀ r, rows[x.toNat]? = some r → ∀ c ∈ r, c ∈ R
/-- while b's ways are looked at: the first ones are seen -/
structure Seen1 (rows : List (List Int)) (a b : Int) (r : List Int) (j : Nat) (R W : List Int) : Prop where
  nd : R.Nodup
  wd : W.Nodup
  st : a ∈ R
  sub : ∀ x ∈ W, x ∈ R
  ok : ∀ x ∈ R, 0 ≤ x ∧ x < (rows.length : Int) ∧ Rch rows a x
  done : ∀ x ∈ R, x ∈ W ∨ x = b ∨ ∀ r, rows[x.toNat]? = some r → ∀ c ∈ r, c ∈ R
  part : ∀ c ∈ r.take j, c ∈ R
  bR : b ∈ R
theorem Seen1.turn {rows : List (List Int)} {a b : Int} {r : List Int} {j : Nat} {R W : List Int} (v : Valid rows) (h : Seen1 rows a b r j R W) (hb : rows[b.toNat]? = some r) {c : Int} (hc : r[j]? = some c) :
    (c ∈ R → Seen1 rows a b r (j + 1) R W) ∧ (c ∉ R → Seen1 rows a b r (j + 1) (R ++ [c]) (W ++ [c])) := by
  have ht : r.take (j + 1) = r.take j ++ [c] := by rw [List.take_add_one, hc]; rfl
  have hcr := List.mem_of_getElem? hc
  have b0 := (h.ok b h.bR)
  refine ⟨fun hm => ⟨h.nd, h.wd, h.st, h.sub, h.ok, h.done, fun x hx => ?_, h.bR⟩, fun hm => ⟨?_, ?_, ?_, ?_, ?_, ?_, ?_, ?_⟩⟩
  · rw [ht] at hx
    rcases List.mem_append.mp hx with q | q
    · exact h.part x q
    · rw [List.mem_singleton.mp q]; exact hm
  · refine List.nodup_append.mpr ⟨h.nd, by simp, fun x hx y hy e => hm ?_⟩
    rw [List.mem_singleton.mp hy] at e
    rw [← e]; exact hx
  · refine List.nodup_append.mpr ⟨h.wd, by simp, fun x hx y hy e => hm ?_⟩
    rw [List.mem_singleton.mp hy] at e
    rw [← e]; exact h.sub x hx
  · exact List.mem_append_left _ h.st
  · intro x hx
    rcases List.mem_append.mp hx with q | q
    · exact List.mem_append_left _ (h.sub x q)
    · exact List.mem_append_right _ q
  · intro x hx
    rcases List.mem_append.mp hx with q | q
    · exact h.ok x q
    · rw [List.mem_singleton.mp q]
      have := v.way hb hcr
      exact ⟨this.1, this.2, .step b0.2.2 b0.1 hb hcr⟩
  · intro x hx
    rcases List.mem_append.mp hx with q | q
    · rcases h.done x q with z | z | z
      · exact .inl (List.mem_append_left _ z)
      · exact .inr (.inl z)
      · exact .inr (.inr fun r hr c hc => List.mem_append_left _ (z r hr c hc))
    · exact .inl (List.mem_append_right _ q)
  · intro x hx
    rw [ht] at hx
    rcases List.mem_append.mp hx with q | q
    · exact List.mem_append_left _ (h.part x q)
    · exact List.mem_append_right _ q
  · exact List.mem_append_left _ h.bR
theorem Seen.begin {rows : List (List Int)} {a b : Int} {r : List Int} {R W : List Int} (h : Seen rows a R (W ++ [b])) : Seen1 rows a b r 0 R W :=
  ⟨h.nd, (List.nodup_append.mp h.wd).1, h.st, fun x hx => h.sub x (List.mem_append_left _ hx), h.ok, fun x hx => by
    rcases h.done x hx with z | z
    · rcases List.mem_append.mp z with q | q
      · exact .inl q
      · exact .inr (.inl (List.mem_singleton.mp q))
    · exact .inr (.inr z), fun c hc => by simp at hc, h.sub b (List.mem_append_right _ (List.mem_singleton.mpr rfl))⟩
theorem Seen1.finish {rows : List (List Int)} {a b : Int} {r : List Int} {R W : List Int} (h : Seen1 rows a b r r.length R W) (hb : rows[b.toNat]? = some r) : Seen rows a R W :=
  ⟨h.nd, h.wd, h.st, h.sub, h.ok, fun x hx => by
    rcases h.done x hx with z | z | z
    · exact .inl z
    · subst z
      refine .inr fun r' hr' c hc => ?_
      rw [hb] at hr'; cases hr'
      exact h.part c (by rw [List.take_length]; exact hc)
    · exact .inr z⟩
theorem Seen.all {rows : List (List Int)} {a : Int} {R : List Int} (h : Seen rows a R []) : ∀ x, x ∈ R ↔ Rch rows a x := by
  intro x
  refine ⟨fun hx => (h.ok x hx).2.2, fun hx => ?_⟩
  induction hx with
  | refl => exact h.st
  | step h1 h2 h3 h4 ih =>
    rcases h.done _ ih with z | z
    · simp at z
    · exact z _ h3 _ h4
def spReached : Sp := fun vs H Q _ => ∃ (B : Hp) (M : List (Addr × HO)) (t : Addr) (rows : List (List Int)) (a : Int), vs = [.ref t, .int a] ∧ Hs B M H ∧ TW B t rows ∧ Valid rows ∧ 0 ≤ a ∧ a < (rows.length : Int) ∧
  ∀ (p : Addr) (H' : Hp) (R : List Int), Hs B ((p, .lst (R.map V.int)) :: M) H' → R.Nodup → (∀ x, x ∈ R ↔ Rch rows a x) → Q (.ref p) H'
-- _reached: 0 ways, 1 start, 2 reached, 3 waiting, 4 row, 5 place
abbrev s_reached : Stmt := top 11
theorem sc_reached : FnScope ["ways", "start", "reached", "waiting", "row", "place"] ["ways", "start"] (defScope s_reached) := ⟨rfl, rfl, rfl, by decide +kernel, rfl, by decide +kernel, by decide +kernel⟩
section
variable {P : Program} {w : World} {K : PySem.W.Frag} {mg : Str → Option Value} {base : Heap}
theorem ok_reached (T : Names mg) (G : Glo K mg "_reached" s_reached) : Cal P w K mg base "_reached" 1 ["ways", "start"] spReached := by
  refine G.cal (k := 0) sc_reached (fun _ _ _ _ _ _ us hl => match us, hl with | [_, _], _ => rfl) (fun vs H Q E h => ?_) (fun f cdv A outer s H vs Q E hr h => ?_)
  · obtain ⟨B, M, t, rows, a, rfl, _⟩ := h; rfl
  obtain ⟨B, M, t, rows, a, rfl, S, ⟨ts, ht, hT⟩, hv, a0, a1, hQ⟩ := h
  have hn := hv.le
  have htl := hT.length
  refine ⟨_, (pss_cons (ps_set (i := 2) sc_reached.nd rfl (Or.inl rfl) (pe_lst (pa_cons (pv 1) pa_nil))) (pss_cons (ps_set (i := 3) sc_reached.nd rfl (Or.inl rfl) (pe_lst (pa_cons (pv 1) pa_nil))) (pss_cons (ps_while PassesOwn.never (pt_truthK K (pv 3) (by intro _; rfl)) (pss_cons (ps_set (i := 4) sc_reached.nd rfl (Or.inl rfl) (pe_ix (k_ixT K) (pv 0) (pe_bm0K K PySem.F.plainAttrs_list PySem.F.slot_list_pop PySem.F.type_list_pop mt_pop (pv 3)) (fun _ _ => rfl))) (pss_one (ps_for PassesOwn.never rfl (pi_tupK K (pv 4)) (pg_name (i := 5) sc_reached.nd rfl (Or.inl rfl)) (pss_one (ps_if (pt_cmpR (k_notIn K) (pv 5) (pv 2) (by rfl)) (pss_cons (ps_expr (pe_bmK K PySem.F.plainAttrs_list PySem.F.slot_list_append PySem.F.type_list_append mt_append (pv 2) (pa_cons (pv 5) pa_nil))) (pss_one (ps_expr (pe_bmK K PySem.F.plainAttrs_list PySem.F.slot_list_append PySem.F.type_list_append mt_append (pv 3) (pa_cons (pv 5) pa_nil))))) pss_nil)))))) (pss_one (ps_ret (pv 2)))))), ?_⟩
  walk_at "go"
  refine w_lst S (len_ok (by simp)) fun p H1 S1 => ?_
  walk_at "go"
  refine w_lst S1 (len_ok (by simp)) fun q H2 S2 => ?_
  walk_at "go"
  refine w_while (α := List Int × List Int) (fun z σ H => ∃ v4 v5 : Option V, σ = [some (.ref t), some (.int a), some (.ref p), some (.ref q), v4, v5] ∧ Hs B ((q, .lst (z.2.map V.int)) :: (p, .lst (z.1.map V.int)) :: M) H ∧ Seen rows a z.1 z.2)
    (fun z => 2 * (8 - z.1.length) + z.2.length) ([a], [a]) ⟨none, none, rfl, S2, ?_⟩ ?_
  · refine ⟨by simp, by simp, by simp, by simp, ?_, by simp⟩
    intro x hx
    rw [List.mem_singleton.mp hx]
    exact ⟨a0, a1, .refl⟩
  · rintro ⟨R, W⟩ σ H3 ⟨v4, v5, rfl, S3, hs⟩
    have hRl : R.length ≤ 8 := Nat.le_trans (pigeon rows.length R hs.nd fun x hx => ⟨(hs.ok x hx).1, (hs.ok x hx).2.1⟩) hn
    walk_at "go"
    refine w_truL (sqL_of (S3.get 0)) ?_
    rcases List.eq_nil_or_concat W with rfl | ⟨W', b, eW⟩
    · refine iteF ?_
      walk_at "go"
      exact hQ p _ R (S3.drop 0) hs.nd hs.all
    · rw [List.concat_eq_append] at eW
      subst eW
      dsimp only at S3 hs ⊢
      rw [show (!(List.map V.int (W' ++ [b])).isEmpty) = true by simp]
      refine iteT (whb ?_)
      have hbR : b ∈ R := hs.sub b (by simp)
      have hb := hs.ok b hbR
      walk_at "go"
      refine ⟨tyL (sqL_of (S3.get 0)), ?_⟩
      refine w_pop S3 0 rfl (y := .int b) (by simp) fun H4 S4 => ?_
      obtain ⟨r, hr1⟩ : ∃ r, rows[b.toNat]? = some r := ⟨_, List.getElem?_eq_getElem (by omega)⟩
      obtain ⟨tb, htb, hr2⟩ := hT.get hr1
      refine w_ixT (v := .ref tb) ((ht.mono S4.ex).sq) (at_of (j := b.toNat) (by omega) (by rw [List.getElem?_map, htb]; rfl)) ?_
      walk_at "go"
      refine w_iTE ((hr2.mono S4.ex).sq) ?_
      have e4 : (List.map V.int (W' ++ [b])).dropLast = W'.map V.int := by rw [List.map_append]; simp
      have S4 : Hs B ((q, .lst (W'.map V.int)) :: (p, .lst (R.map V.int)) :: M) H4 := by
        rw [← e4]; exact S4
      refine for_tpl (xs := r.map V.int) (fun j σ H => ∃ (R' X' : List Int) (v5 : Option V), σ = [some (.ref t), some (.int a), some (.ref p), some (.ref q), some (.ref tb), v5] ∧ Hs B ((q, .lst ((W' ++ X').map V.int)) :: (p, .lst (R'.map V.int)) :: M) H ∧ Seen1 rows a b r j R' (W' ++ X') ∧ R'.length = R.length + X'.length)
        ⟨R, [], v5, rfl, by rw [List.append_nil]; exact S4, by rw [List.append_nil]; exact hs.begin, rfl⟩ (fun i σ H _ ⟨_, _, _, _, S5, _⟩ => (hr2.mono S5.ex).sq) ?_ ?_
      · rintro j x σ H5 hx ⟨R', X', v5, rfl, S5, h1, hlen⟩
        obtain ⟨c, hc, rfl⟩ : ∃ c, r[j]? = some c ∧ V.int c = x := by simpa using hx
        have hRl' : R'.length ≤ 8 := Nat.le_trans (pigeon rows.length R' h1.nd fun x hx => ⟨(h1.ok x hx).1, (h1.ok x hx).2.1⟩) hn
        obtain ⟨t1, t2⟩ := h1.turn hv hr1 hc
        walk_at "go"
        refine w_inL (sqL_of (S5.get 1)) rfl (flat_ints _) ?_
        rw [inV_int]
        walk_at "go"
        by_cases hm : c ∈ R'
        · rw [decide_eq_true hm]
          refine iteF ?_
          walk_at "go"
          exact ⟨R', X', some (.int c), rfl, S5, t1 hm, hlen⟩
        · rw [decide_eq_false hm]
          refine iteT ?_
          have t3 := t2 hm
          have hX : (W' ++ X').length ≤ 8 := Nat.le_trans (pigeon rows.length _ h1.wd fun x hx => ⟨(h1.ok x (h1.sub x hx)).1, (h1.ok x (h1.sub x hx)).2.1⟩) hn
          walk_at "go"
          refine ⟨tyL (sqL_of (S5.get 1)), ?_⟩
          walk_at "go"
          refine w_append S5 1 rfl (len_lt (by simp; omega)) fun H6 S6 => ?_
          walk_at "go"
          refine ⟨tyL (sqL_of (S6.get 0)), ?_⟩
          walk_at "go"
          refine w_append S6 0 rfl (len_lt (by simp at hX; simp; omega)) fun H7 S7 => ?_
          refine ⟨R' ++ [c], X' ++ [c], some (.int c), rfl, ?_, ?_, by simp; omega⟩
          · rw [← List.append_assoc, List.map_append (l₁ := W' ++ X'), List.map_append (l₁ := R')]
            exact S7
          · rw [← List.append_assoc]; exact t3
      · rintro σ H5 ⟨R', X', v5, rfl, S5, h1, hlen⟩
        rw [List.length_map] at h1
        have hRl' : R'.length ≤ 8 := Nat.le_trans (pigeon rows.length R' h1.nd fun x hx => ⟨(h1.ok x hx).1, (h1.ok x hx).2.1⟩) hn
        exact ⟨(R', W' ++ X'), by simp; omega, some (.ref tb), v5, rfl, S5, h1.finish hr1⟩
end
end Rw

namespace Rw
open PySem PySem.Spec PyProof.Rows L2
local macro_rules | `(tactic| walk_at "go1") => `(tactic| first
  | (with_reducible refine w_seq ?_)
  | (with_reducible refine w_asg ?_)
  | (with_reducible refine w_name ?_)
  | (with_reducible refine w_drop ?_)
  | (with_reducible refine w_ret ?_)
  | (with_reducible refine w_next ?_)
  | (with_reducible refine w_op ?_)
  | (with_reducible refine w_un ?_)
  | (with_reducible refine w_c ?_)
  | (with_reducible refine w_var (by with_unfolding_all rfl) ?_)
  | (with_reducible refine w_rI0 ?_)
  | (with_reducible refine w_rU ?_)
  | ((with_reducible refine w_mod ?_ ?_); (show (0 : Int) < _); omega)
  | ((with_reducible refine w_div ?_ ?_); exact And.intro (by omega) (by omega))
  | ((with_reducible refine w_mul ?_ ?_); (first | exact Or.inl (And.intro (by omega) (by omega)) | exact Or.inr (And.intro (by omega) (by omega))))
  | (with_reducible refine w_ifS ?_)
  | (with_reducible refine w_if ?_)
  | (with_reducible refine w_test ?_)
  | (with_reducible refine w_B ?_)
  | (with_reducible refine w_bl ?_)
  | (with_reducible refine w_not ?_)
  | (with_reducible refine w_and ?_)
  | (with_reducible refine w_or ?_)
  | (with_reducible refine w_cons ?_)
  | (with_reducible refine w_nil ?_)
  | (with_reducible refine w_call ?_)
  | (with_reducible refine w_cb ?_)
  | (with_reducible refine w_bm0 ?_)
  | (with_reducible refine w_bm ?_)
  | (with_reducible refine w_tlst ?_)
  | (with_reducible refine w_ttup ?_)
  | (with_reducible refine w_sub ?_)
  | (with_reducible refine w_for ?_)
  | (with_reducible refine w_rng1 ?_)
  | ((with_reducible refine w_rngE ?_ ?_ ?_); omega; omega)
  | (with_reducible refine w_iL ?_)
  | (with_reducible refine w_iT ?_)
  | (with_reducible refine w_iE ?_)
  | (with_reducible refine w_iZ ?_)
  | (with_reducible refine w_lc ?_)
  | (with_reducible refine w_yes ?_)
  | (with_reducible refine w_gcons ?_)
  | (with_reducible refine w_gnil ?_)
  | (with_reducible refine w_max2 ?_)
  | (with_reducible refine w_sl ?_)
  | (with_reducible refine w_part ?_)
  | (with_reducible refine w_partI ?_)
  | (with_reducible refine w_nopart ?_)
  | (with_reducible refine w_isT ?_)
  | (with_reducible refine w_notT ?_)
  | (with_reducible refine w_isB ?_)
  | (with_reducible refine w_notB ?_)
  | (with_reducible refine w_isN ?_)
  | (with_reducible refine w_notN ?_)
  | (with_reducible refine w_fld ?_)
  | (with_reducible refine w_ftm ?_)
  | (with_reducible refine w_lrg ?_)
  | (with_reducible refine w_rg1 ?_)
  | (with_reducible refine w_rg1E ?_)
  | (with_reducible refine w_tru ?_)
  | (with_reducible refine w_truB ?_)
  | (with_reducible refine w_truI ?_)
  | (with_reducible refine w_notT' ?_)
  | (with_reducible refine w_andT ?_)
  | (with_reducible refine w_orT ?_)
  | (with_reducible refine w_andV ?_)
  | (with_reducible refine w_orV ?_)
  | (with_reducible refine w_andE ?_)
  | (with_reducible refine w_orE ?_)
  | (with_reducible refine w_notV ?_)
  | (with_reducible refine w_notE ?_)
  | (with_reducible refine w_chain ?_)
  | (with_reducible refine w_chainI ?_)
  | (with_reducible refine w_meth ?_)
  | (with_reducible refine w_make ?_)
  | (with_reducible refine w_sfld ?_))
local macro_rules | `(tactic| walk_at "go") => `(tactic| repeat walk_at "go1")

local macro_rules | `(tactic| walk_at "go1") => `(tactic| first
  | (with_reducible refine w_callX ?_)
  | (with_reducible refine w_methX ?_)
  | (with_reducible refine w_makeX ?_))
/-! ### the web -/
structure WebAt (C : Addr) (H : Hp) (a : Addr) (rows : List (List Int)) : Prop where
  ex : ∃ dx t, H a = some (.ins C dx [("_ways", .ref t)]) ∧ TW H t rows
theorem WebAt.mono {C : Addr} {H H' : Hp} {a : Addr} {rows : List (List Int)} (e : Same H H') (h : WebAt C H a rows) : WebAt C H' a rows := by
  obtain ⟨dx, t, h1, h2⟩ := h.ex
  exact ⟨dx, t, e _ _ h1, h2.mono e⟩
structure WebT (K : PySem.W.Frag) (mg : Str → Option Value) (C : Addr) : Prop where
  cl : Cls K C
  nw : NoAttr K C "_ways"
def sumI (f : List Int → Int) (rows : List (List Int)) : Int := (rows.map f).sum
def waysIn (rows : List (List Int)) (i : Int) : Int := (rows.map fun r => ((r.count i : Nat) : Int)).sum
def Joined (rows : List (List Int)) : Prop := ∀ i x : Int, 0 ≤ i → i < (rows.length : Int) → 0 ≤ x → x < (rows.length : Int) → Rch rows i x
def Balanced (rows : List (List Int)) : Prop := ∀ (i : Nat) (r : List Int), rows[i]? = some r → waysIn rows (i : Int) = (r.length : Int)
structure EvenW (rows : List (List Int)) : Prop where
  noRest : ∀ r ∈ rows, r ≠ []
  bal : Balanced rows
  join : Joined rows
def restsTo (rows : List (List Int)) (n : Nat) : List Int := ((List.range n).filter fun i => rows[i]? == some []).map fun i : Nat => (i : Int)
def spMany (C : Addr) : Sp := fun vs H Q _ => ∃ (a : Addr) (rows : List (List Int)), vs = [.ref a] ∧ WebAt C H a rows ∧ Q (.int (rows.length : Nat)) H
def spCheck (C : Addr) : Sp := fun vs H Q _ => ∃ (a : Addr) (rows : List (List Int)) (i : Int), vs = [.ref a, .int i] ∧ WebAt C H a rows ∧ 0 ≤ i ∧ i < (rows.length : Int) ∧ Q .non H
def spIsRest (C : Addr) : Sp := fun vs H Q _ => ∃ (a : Addr) (rows : List (List Int)) (i : Int) (r : List Int), vs = [.ref a, .int i] ∧ WebAt C H a rows ∧ 0 ≤ i ∧ rows[i.toNat]? = some r ∧ Q (.bl r.isEmpty) H
def spComes (C : Addr) : Sp := fun vs H Q _ => ∃ (B : Hp) (M : List (Addr × HO)) (a : Addr) (rows : List (List Int)) (i j : Int), vs = [.ref a, .int i, .int j] ∧ Hs B M H ∧ WebAt C B a rows ∧ Valid rows ∧ 0 ≤ i ∧ i < (rows.length : Int) ∧ 0 ≤ j ∧ j < (rows.length : Int) ∧
  ∀ (b : Bool) (H' : Hp), Hs B M H' → (b = true ↔ Rch rows i j) → Q (.bl b) H'
def spWaysIn : Sp := fun vs H Q _ => ∃ (B : Hp) (M : List (Addr × HO)) (t : Addr) (rows : List (List Int)) (i : Int), vs = [.ref t, .int i] ∧ Hs B M H ∧ TW B t rows ∧ Valid rows ∧ ∀ H', Hs B M H' → Q (.int (waysIn rows i)) H'
def spRowsM (C : Addr) : Sp := fun vs H Q _ => ∃ (B : Hp) (M : List (Addr × HO)) (a : Addr) (rows : List (List Int)), vs = [.ref a] ∧ Hs B M H ∧ WebAt C B a rows ∧ Valid rows ∧
  ∀ (p : Addr) (as : List Addr) (B' H' : Hp), Same B B' → Hs B' ((p, .lst (as.map V.ref)) :: M) H' → LR B' as rows → (∀ x ∈ as, B x = none) → Q (.ref p) H'
def spRests (C : Addr) : Sp := fun vs H Q _ => ∃ (B : Hp) (M : List (Addr × HO)) (a : Addr) (rows : List (List Int)), vs = [.ref a] ∧ Hs B M H ∧ WebAt C B a rows ∧ Valid rows ∧
  ∀ (p : Addr) (H' : Hp), Hs B ((p, .lst ((restsTo rows rows.length).map V.int)) :: M) H' → Q (.ref p) H'
def spBool (C : Addr) (φ : List (List Int) → Prop) : Sp := fun vs H Q _ => ∃ (B : Hp) (M : List (Addr × HO)) (a : Addr) (rows : List (List Int)), vs = [.ref a] ∧ Hs B M H ∧ WebAt C B a rows ∧ Valid rows ∧
  ∀ (b : Bool) (H' : Hp), Hs B M H' → (b = true ↔ φ rows) → Q (.bl b) H'
def spInit (C : Addr) : Sp := fun vs H Q _ => ∃ (B : Hp) (M : List (Addr × HO)) (x dx p : Addr) (rows : List (List Int)), vs = [.ref x, .ref p] ∧ Hs B ((x, .ins C dx []) :: (dx, .own x) :: M) H ∧ LL B p rows ∧ Valid rows ∧
  ∀ B' H', Same B B' → Hs B' M H' → WebAt C B' x rows → Q .non H'
/-! ### what is no place -/
def spCheckX (C CP : Addr) : Sp := fun vs H Q E => ∃ (a : Addr) (rows : List (List Int)) (v : V) (b : Bool), vs = [.ref a, v] ∧ WebAt C H a rows ∧ PlD H (rows.length : Nat) v b ∧ (b = true → Q .non H) ∧ (b = false → rows.length ≤ 8 ∧ E (.ref CP) none H)
def spIsRestX (C CP : Addr) : Sp := fun vs H Q E => ∃ (a : Addr) (rows : List (List Int)) (v : V) (b : Bool), vs = [.ref a, v] ∧ WebAt C H a rows ∧ PlD H (rows.length : Nat) v b ∧ (b = true → ∀ (i : Int) (r : List Int), v = .int i → 0 ≤ i → rows[i.toNat]? = some r → Q (.bl r.isEmpty) H) ∧ (b = false → rows.length ≤ 8 ∧ E (.ref CP) none H)
-- __init__: 0 self, 1 rows, 2 row
abbrev s_Web_init : Stmt := inClass (top 13) 0
theorem sc_Web_init : FnScope ["self", "rows", "row"] ["self", "rows"] (defScope s_Web_init) := ⟨rfl, rfl, rfl, by decide +kernel, rfl, by decide +kernel, by decide +kernel⟩
-- rows: 0 self, 1 row
abbrev s_Web_rows : Stmt := inClass (top 13) 1
theorem sc_Web_rows : FnScope ["self", "row"] ["self"] (defScope s_Web_rows) := ⟨rfl, rfl, rfl, by decide +kernel, rfl, by decide +kernel, by decide +kernel⟩
-- many: 0 self
abbrev s_Web_many : Stmt := inClass (top 13) 2
theorem sc_Web_many : FnScope ["self"] ["self"] (defScope s_Web_many) := ⟨rfl, rfl, rfl, by decide +kernel, rfl, by decide +kernel, by decide +kernel⟩
-- is_rest: 0 self, 1 place
abbrev s_Web_is_rest : Stmt := inClass (top 13) 4
theorem sc_Web_is_rest : FnScope ["self", "place"] ["self", "place"] (defScope s_Web_is_rest) := ⟨rfl, rfl, rfl, by decide +kernel, rfl, by decide +kernel, by decide +kernel⟩
-- comes: 0 self, 1 place, 2 other
abbrev s_Web_comes : Stmt := inClass (top 13) 5
theorem sc_Web_comes : FnScope ["self", "place", "other"] ["self", "place", "other"] (defScope s_Web_comes) := ⟨rfl, rfl, rfl, by decide +kernel, rfl, by decide +kernel, by decide +kernel⟩
-- check_place: 0 self, 1 place
abbrev s_Web_check_place : Stmt := inClass (top 13) 7
theorem sc_Web_check_place : FnScope ["self", "place"] ["self", "place"] (defScope s_Web_check_place) := ⟨rfl, rfl, rfl, by decide +kernel, rfl, by decide +kernel, by decide +kernel⟩
section
variable {P : Program} {w : World} {K : PySem.W.Frag} {mg : Str → Option Value} {base : Heap} {CW CP CB : Addr}
theorem ok_many (T : Names mg) (TW_ : WebT K mg CW) (G : GloM K CW "many" "Web.many" s_Web_many) : CalM P w K mg base CW "many" 1 ["self"] (spMany CW) := by
  refine G.cal (k := 0) sc_Web_many (fun _ _ _ _ _ _ us hl => match us, hl with | [_], _ => rfl) (fun vs H Q E h => ?_) (fun f cdv A outer s H vs Q E hr h => ?_)
  · obtain ⟨a, rows, rfl, _⟩ := h; rfl
  obtain ⟨a, rows, rfl, ⟨dx, t, ha, ts, ht, hT⟩, hQ⟩ := h
  have htl := hT.length
  refine ⟨_, (pss_one (ps_ret (pe_callB (k_len K) rfl T.n_len boot_len (pa_cons (pe_fldK K (pv 0) rfl) pa_nil)))), ?_⟩
  walk_at "go"
  refine w_fldE ha TW_.cl TW_.nw look1 ?_
  walk_at "go"
  refine w_lenT ht.sq ?_
  rw [List.length_map, htl]
  exact hQ
theorem ok_rowsM (T : Names mg) (TW_ : WebT K mg CW) (G : GloM K CW "rows" "Web.rows" s_Web_rows) : CalM P w K mg base CW "rows" 1 ["self"] (spRowsM CW) := by
  refine G.cal (k := 0) sc_Web_rows (fun _ _ _ _ _ _ us hl => match us, hl with | [_], _ => rfl) (fun vs H Q E h => ?_) (fun f cdv A outer s H vs Q E hr h => ?_)
  · obtain ⟨B, M, a, rows, rfl, _⟩ := h; rfl
  obtain ⟨B, M, a, rows, rfl, S, ⟨dx, t, ha, ts, ht, hT⟩, hv, hQ⟩ := h
  have hle := hv.le
  have htl := hT.length
  refine ⟨_, (pss_one (ps_ret (pe_lc (own := [("row", 1)]) rfl sc_Web_rows.nd (pi_tupK K (pe_fldK K (pv 0) rfl)) (blkOk_by (own := [("row", 1)]) (N := ["self", "row"]) (sc := defScope s_Web_rows) (by decide +kernel)) (fun _ _ _ _ _ => (pg_name (i := 1) sc_Web_rows.nd rfl (Or.inl rfl))) (fun _ _ _ _ _ => pts_nil) (fun _ _ _ _ _ => (pe_callTy (k_list K) rfl T.n_list (by decide +kernel) (pa_cons (pv 1) pa_nil)))))), ?_⟩
  walk_at "go"
  refine w_fldE (S.ex _ _ ha) TW_.cl TW_.nw look1 ?_
  refine w_iTE ((ht.mono S.ex).sq) ?_
  refine lc_F S ht (fun i B' acc => ∃ as : List Addr, acc = as.map V.ref ∧ LR B' as (rows.take i) ∧ ∀ x ∈ as, B x = none) ⟨[], rfl, .nil, by simp⟩ ?_ ?_
  · rintro i x D B' acc H' hi hli e S' ⟨as, rfl, hR, hf⟩
    obtain ⟨b, hb, rfl⟩ : ∃ b, ts[i]? = some b ∧ V.ref b = x := by simpa using hi
    have hil : i < ts.length := (List.getElem?_eq_some_iff.mp hb).1
    obtain ⟨r, hr1, hr2⟩ : ∃ r, rows[i]? = some r ∧ FT B b (r.map V.int) := by
      have hir : i < rows.length := by omega
      obtain ⟨b', h1, h2⟩ := hT.get (i := i) (List.getElem?_eq_getElem hir)
      rw [hb] at h1; cases h1
      exact ⟨_, List.getElem?_eq_getElem hir, h2⟩
    walk_at "go"
    refine ⟨rfl, ?_⟩
    walk_at "go"
    refine iteT ?_
    walk_at "go"
    refine w_listT S' ((hr2.mono e).mono S'.ex).sq fun q H2 S2 => ?_
    obtain ⟨B2, e2, hq, S3⟩ := S2.shut 0
    refine lcp S3 (e.trans e2) hli (by omega) ⟨as ++ [q], by simp, ?_, ?_⟩
    · rw [List.take_add_one, hr1]
      exact (hR.mono e2).snoc hq
    · intro x hx
      rcases List.mem_append.mp hx with z | z
      · exact hf x z
      · rw [List.mem_singleton.mp z]
        exact e.free (S2.out 0)
  · rintro D B' acc H' e S' hli ⟨as, rfl, hR, hf⟩
    have e1 : rows.take (ts.map V.ref).length = rows := List.take_of_length_le (by simp; omega)
    rw [e1] at hR
    exact hQ D as B' H' e S' hR hf
theorem ok_checkX (T : Names mg) (T_Web : Cls K CW) (R_BadPlace : ErrT K mg "BadPlace" CP) (G : GloM K CW "check_place" "Web.check_place" s_Web_check_place) (C_is_number : Cal P w K mg base "is_number" 1 ["thing", "least", "most"] spNum) (C_Web_many : CalM P w K mg base CW "many" 1 ["self"] (spMany CW)) : CalMX P w K mg base CW "check_place" 2 ["self", "place"] (spCheckX CW CP) := by
  refine G.calX (k := 1) sc_Web_check_place (fun _ _ _ _ _ _ us hl => match us, hl with | [_, _], _ => rfl) (fun vs H Q E h => ?_) (fun f cdv A outer s H vs Q E hr h => ?_)
  · obtain ⟨a, rows, i, b, rfl, _⟩ := h; rfl
  obtain ⟨a, rows, i, b, rfl, hw, hp, hQ, hE⟩ := h
  obtain ⟨dx, t, ha, _⟩ := hw.ex
  refine ⟨_, (pss_one (ps_if (pt_not (pt_val (pe_cal C_is_number hr rfl (pa_cons (pv 1) (pa_cons pe_int (pa_cons (pe_op op_sub (pe_calM0 (pv 0) T_Web C_Web_many hr) pe_int) pa_nil)))))) (pss_one (ps_raiseE R_BadPlace rfl (takes_of rfl rfl rfl rfl) (pe_joined (.cons pe_str (.cons (pe_fmt (pe_op op_sub (pe_calM0 (pv 0) T_Web C_Web_many hr) pe_int)) .nil))) rfl)) pss_nil)), ?_⟩
  walk_at "go"
  refine w_methE ha (look1n (by decide +kernel)) ?_
  walk_at "go"
  refine ⟨a, rows, rfl, hw, ?_⟩
  walk_at "go"
  refine ⟨i, 0, _, b, rfl, hp.num, ?_⟩
  walk_at "go"
  cases b with
  | true =>
    refine iteF ?_
    exact hQ rfl
  | false =>
    obtain ⟨hle, hE⟩ := hE rfl
    refine iteT ?_
    refine w_jsC 0 (Nat.le_refl _) (k := fun acc hacc => ?_)
    refine w_jsF ?_
    walk_at "go"
    refine w_methE ha (look1n (by decide +kernel)) ?_
    walk_at "go"
    refine ⟨a, rows, rfl, hw, ?_⟩
    walk_at "go"
    refine w_fmtI _ hacc (by decide +kernel) (by omega) fun acc' _ => ?_
    exact hE
theorem plD_true {H : Hp} {m : Int} {v : V} (h : PlD H m v true) : ∃ i, v = .int i ∧ 0 ≤ i ∧ i < m := by
  generalize e : true = b at h
  cases h with
  | int i => exact ⟨i, rfl, of_decide_eq_true e.symm⟩
  | oth t h => cases e
theorem plD_int {H : Hp} {m i : Int} (h0 : 0 ≤ i) (h1 : i < m) : PlD H m (.int i) true := by
  rw [← decide_eq_true (show 0 ≤ i ∧ i < m from ⟨h0, h1⟩)]
  exact .int i
theorem good_check (F : CalMX P w K mg base CW "check_place" 2 ["self", "place"] (spCheckX CW CP)) : CalM P w K mg base CW "check_place" 2 ["self", "place"] (spCheck CW) := by
  refine F.calm (fun vs H Q h => ?_) fun vs H Q E h => h
  obtain ⟨a, rows, i, rfl, hw, h0, h1, hQ⟩ := h
  exact ⟨a, rows, .int i, true, rfl, hw, plD_int h0 h1, fun _ => hQ, fun z => nomatch z⟩
theorem ok_is_restX (T : Names mg) (TW_ : WebT K mg CW) (T_Web : Cls K CW) (G : GloM K CW "is_rest" "Web.is_rest" s_Web_is_rest) (XC_Web_check_place : CalMX P w K mg base CW "check_place" 2 ["self", "place"] (spCheckX CW CP)) : CalMX P w K mg base CW "is_rest" 3 ["self", "place"] (spIsRestX CW CP) := by
  refine G.calX (k := 2) sc_Web_is_rest (fun _ _ _ _ _ _ us hl => match us, hl with | [_, _], _ => rfl) (fun vs H Q E h => ?_) (fun f cdv A outer s H vs Q E hr h => ?_)
  · obtain ⟨a, rows, i, b, rfl, _⟩ := h; rfl
  obtain ⟨a, rows, v, b, rfl, hw, hp, hQ, hE⟩ := h
  obtain ⟨dx, t, ha, ts, ht, hT⟩ := hw.ex
  refine ⟨_, (pss_cons (ps_expr (pe_calMX (pv 0) T_Web XC_Web_check_place hr (takes_of rfl rfl rfl rfl) (fun _ _ _ _ h => h) (pa_cons (pv 1) pa_nil))) (pss_one (ps_ret (pe_notTK K (pe_ix (k_ixT K) (pe_fldK K (pv 0) rfl) (pv 1) (fun _ _ => rfl)))))), ?_⟩
  walk_at "go"
  refine w_methXE ha (look1n (by decide +kernel)) ?_
  walk_at "go"
  refine ⟨a, rows, v, b, rfl, hw, hp, fun hb => ?_, hE⟩
  subst hb
  obtain ⟨i, rfl, h0, h1⟩ := plD_true hp
  have hr0 : rows[i.toNat]? = some (rows[i.toNat]'(by omega)) := List.getElem?_eq_getElem (by omega)
  generalize rows[i.toNat]'(by omega) = r at hr0
  obtain ⟨tb, htb, hr2⟩ := hT.get hr0
  walk_at "go"
  refine w_fldE ha TW_.cl TW_.nw look1 ?_
  walk_at "go"
  refine w_ixT (v := .ref tb) ht.sq (at_of (j := i.toNat) (by omega) (by rw [List.getElem?_map, htb]; rfl)) ?_
  refine w_truT hr2.sq ?_
  rw [show (!!(List.map V.int r).isEmpty) = r.isEmpty by cases r <;> rfl]
  exact hQ rfl i r rfl h0 hr0
theorem good_is_rest (F : CalMX P w K mg base CW "is_rest" 3 ["self", "place"] (spIsRestX CW CP)) : CalM P w K mg base CW "is_rest" 3 ["self", "place"] (spIsRest CW) := by
  refine F.calm (fun vs H Q h => ?_) fun vs H Q E h => h
  obtain ⟨a, rows, i, r, rfl, hw, h0, hr, hQ⟩ := h
  have h1 := (List.getElem?_eq_some_iff.mp hr).1
  refine ⟨a, rows, .int i, true, rfl, hw, plD_int h0 (by omega), fun _ j r' ej _ er => ?_, fun z => nomatch z⟩
  cases ej
  rw [hr] at er
  cases er
  exact hQ
theorem ok_comes (T : Names mg) (TW_ : WebT K mg CW) (T_Web : Cls K CW) (G : GloM K CW "comes" "Web.comes" s_Web_comes) (C_Web_check_place : CalM P w K mg base CW "check_place" 2 ["self", "place"] (spCheck CW)) (C_reached : Cal P w K mg base "_reached" 2 ["ways", "start"] spReached) : CalM P w K mg base CW "comes" 3 ["self", "place", "other"] (spComes CW) := by
  refine G.cal (k := 2) sc_Web_comes (fun _ _ _ _ _ _ us hl => match us, hl with | [_, _, _], _ => rfl) (fun vs H Q E h => ?_) (fun f cdv A outer s H vs Q E hr h => ?_)
  · obtain ⟨B, M, a, rows, i, j, rfl, _⟩ := h; rfl
  obtain ⟨B, M, a, rows, i, j, rfl, S, hw, hv, i0, i1, j0, j1, hQ⟩ := h
  obtain ⟨dx, t, ha, hT⟩ := hw.ex
  refine ⟨_, (pss_cons (ps_expr (pe_calM (pv 0) T_Web C_Web_check_place hr (pa_cons (pv 1) pa_nil))) (pss_cons (ps_expr (pe_calM (pv 0) T_Web C_Web_check_place hr (pa_cons (pv 2) pa_nil))) (pss_one (ps_ret (pe_cmpR (k_in K) (pv 2) (pe_cal C_reached hr rfl (pa_cons (pe_fldK K (pv 0) rfl) (pa_cons (pv 1) pa_nil))) (by rfl)))))), ?_⟩
  walk_at "go"
  refine w_methE (S.ex _ _ ha) (look1n (by decide +kernel)) ?_
  walk_at "go"
  refine ⟨a, rows, i, rfl, hw.mono S.ex, i0, i1, ?_⟩
  walk_at "go"
  refine w_methE (S.ex _ _ ha) (look1n (by decide +kernel)) ?_
  walk_at "go"
  refine ⟨a, rows, j, rfl, hw.mono S.ex, j0, j1, ?_⟩
  walk_at "go"
  refine w_fldE (S.ex _ _ ha) TW_.cl TW_.nw look1 ?_
  walk_at "go"
  refine ⟨B, M, t, rows, i, rfl, S, hT, hv, i0, i1, fun p H' R S' nd hR => ?_⟩
  refine w_inL (sqL_of (S'.get 0)) rfl (flat_ints _) ?_
  rw [inV_int]
  refine hQ _ _ (S'.drop 0) ?_
  show decide (j ∈ R) = true ↔ _
  rw [decide_eq_true_eq]
  exact hR j
/-! what is no place, no web -/
def spComesX (C CP : Addr) : Sp := fun vs H Q E => ∃ (a : Addr) (rows : List (List Int)) (u v : V) (b c : Bool), vs = [.ref a, u, v] ∧ WebAt C H a rows ∧ rows.length ≤ 8 ∧ PlD H (rows.length : Nat) u b ∧ PlD H (rows.length : Nat) v c ∧ (b && c) = false ∧ E (.ref CP) none H
theorem ok_comesX (T : Names mg) (TW_ : WebT K mg CW) (T_Web : Cls K CW) (G : GloM K CW "comes" "Web.comes" s_Web_comes) (XC_Web_check_place : CalMX P w K mg base CW "check_place" 2 ["self", "place"] (spCheckX CW CP)) (C_reached : Cal P w K mg base "_reached" 2 ["ways", "start"] spReached) : CalMX P w K mg base CW "comes" 3 ["self", "place", "other"] (spComesX CW CP) := by
  refine G.calX (k := 2) sc_Web_comes (fun _ _ _ _ _ _ us hl => match us, hl with | [_, _, _], _ => rfl) (fun vs H Q E h => ?_) (fun f cdv A outer s H vs Q E hr h => ?_)
  · obtain ⟨a, rows, i, j, b, c, rfl, _⟩ := h; rfl
  obtain ⟨a, rows, i, j, b, c, rfl, hw, hle, hp, hq, hbc, hE⟩ := h
  obtain ⟨dx, t, ha, ts, ht, hT⟩ := hw.ex
  refine ⟨_, (pss_cons (ps_expr (pe_calMX (pv 0) T_Web XC_Web_check_place hr (takes_of rfl rfl rfl rfl) (fun _ _ _ _ h => h) (pa_cons (pv 1) pa_nil))) (pss_cons (ps_expr (pe_calMX (pv 0) T_Web XC_Web_check_place hr (takes_of rfl rfl rfl rfl) (fun _ _ _ _ h => h) (pa_cons (pv 2) pa_nil))) (pss_one (ps_ret (pe_cmpR (k_in K) (pv 2) (pe_cal C_reached hr rfl (pa_cons (pe_fldK K (pv 0) rfl) (pa_cons (pv 1) pa_nil))) (by rfl)))))), ?_⟩
  walk_at "go"
  refine w_methXE ha (look1n (by decide +kernel)) ?_
  walk_at "go"
  refine ⟨a, rows, i, b, rfl, hw, hp, fun hb => ?_, fun _ => ⟨hle, hE⟩⟩
  walk_at "go"
  refine w_methXE ha (look1n (by decide +kernel)) ?_
  walk_at "go"
  refine ⟨a, rows, j, c, rfl, hw, hq, fun hc => ?_, fun _ => ⟨hle, hE⟩⟩
  rw [hb, hc] at hbc
  cases hbc
def spInitX (CB : Addr) : Sp := fun vs H Q E => ∃ (B : Hp) (M : List (Addr × HO)) (x : Addr) (v : V), vs = [.ref x, v] ∧ Hs B M H ∧ WbD B v false ∧ ∀ H', Hs B M H' → E (.ref CB) none H'
theorem ok_initX (T : Names mg) (TW_ : WebT K mg CW) (R_BadWeb : ErrT K mg "BadWeb" CB) (G : GloC K mg CW "Web" "Web.__init__" s_Web_init) (C_is_web : Cal P w K mg base "is_web" 3 ["thing"] spIsWebD) : CalCX P w K mg base CW "Web" 4 ["self", "rows"] (spInitX CB) := by
  refine G.calX (k := 3) sc_Web_init (fun _ _ _ _ _ _ us hl => match us, hl with | [_, _], _ => rfl) (fun vs H Q E h => ?_) (fun f cdv A outer s H vs Q E hr h => ?_)
  · obtain ⟨B, M, x, v, rfl, _⟩ := h; rfl
  obtain ⟨B, M, x, v, rfl, S, hd, hE⟩ := h
  refine ⟨_, (pss_cons (ps_if (pt_not (pt_val (pe_cal C_is_web hr rfl (pa_cons (pv 1) pa_nil)))) (pss_one (ps_raiseE R_BadWeb rfl (takes_of rfl rfl rfl rfl) pe_str rfl)) pss_nil) (pss_one (ps_fldK K (pv 0) (pe_callTy (k_tupF K) rfl T.n_tuple (by decide +kernel) (pa_cons (pe_lc (own := [("row", 2)]) rfl sc_Web_init.nd (pi_listK K (pv 1)) (blkOk_by (own := [("row", 2)]) (N := ["self", "rows", "row"]) (sc := defScope s_Web_init) (by decide +kernel)) (fun _ _ _ _ _ => (pg_name (i := 2) sc_Web_init.nd rfl (Or.inl rfl))) (fun _ _ _ _ _ => pts_nil) (fun _ _ _ _ _ => (pe_callTy (k_tupF K) rfl T.n_tuple (by decide +kernel) (pa_cons (pv 2) pa_nil)))) pa_nil)) rfl))), ?_⟩
  walk_at "go"
  refine ⟨B, _, v, false, rfl, S, hd, fun H1 S1 => ?_⟩
  walk_at "go"
  refine iteT ?_
  exact hE _ S1
theorem ok_init (T : Names mg) (TW_ : WebT K mg CW) (G : GloC K mg CW "Web" "Web.__init__" s_Web_init) (C_is_web : Cal P w K mg base "is_web" 3 ["thing"] spIsWebD) : CalC P w K mg base CW "Web" 4 ["self", "rows"] (spInit CW) := by
  refine G.cal (k := 3) sc_Web_init (fun _ _ _ _ _ _ us hl => match us, hl with | [_, _], _ => rfl) (fun vs H Q E h => ?_) (fun f cdv A outer s H vs Q E hr h => ?_)
  · obtain ⟨B, M, x, dx, p, rows, rfl, _⟩ := h; rfl
  obtain ⟨B, M, x, dx, p, rows, rfl, S, ⟨as, hp, hR⟩, hv, hQ⟩ := h
  have hle := hv.le
  have hal := hR.length
  refine ⟨_, (pss_cons (ps_if (pt_not (pt_val (pe_cal C_is_web hr rfl (pa_cons (pv 1) pa_nil)))) (pss_one ps_never) pss_nil) (pss_one (ps_fldK K (pv 0) (pe_callTy (k_tupF K) rfl T.n_tuple (by decide +kernel) (pa_cons (pe_lc (own := [("row", 2)]) rfl sc_Web_init.nd (pi_listK K (pv 1)) (blkOk_by (own := [("row", 2)]) (N := ["self", "rows", "row"]) (sc := defScope s_Web_init) (by decide +kernel)) (fun _ _ _ _ _ => (pg_name (i := 2) sc_Web_init.nd rfl (Or.inl rfl))) (fun _ _ _ _ _ => pts_nil) (fun _ _ _ _ _ => (pe_callTy (k_tupF K) rfl T.n_tuple (by decide +kernel) (pa_cons (pv 2) pa_nil)))) pa_nil)) rfl))), ?_⟩
  walk_at "go"
  refine ⟨B, _, .ref p, true, rfl, S, wbD_good ⟨as, hp, hR⟩ hv, fun H1 S1 => ?_⟩
  walk_at "go"
  refine iteF ?_
  walk_at "go"
  refine w_iLE (sqL_of (S1.ex _ _ hp)) ?_
  refine lc_L S1 hp (fun i B' acc => ∃ ts : List Addr, acc = ts.map V.ref ∧ TR B' ts (rows.take i)) ⟨[], rfl, .nil⟩ ?_ ?_
  · rintro i y D B' acc H' hi hli e S' ⟨ts, rfl, hT⟩
    obtain ⟨b, hb, rfl⟩ : ∃ b, as[i]? = some b ∧ V.ref b = y := by simpa using hi
    have hil : i < as.length := (List.getElem?_eq_some_iff.mp hb).1
    obtain ⟨r, hr1, hr2⟩ : ∃ r, rows[i]? = some r ∧ LI B b r := by
      have hir : i < rows.length := by omega
      obtain ⟨b', h1, h2⟩ := hR.get (i := i) (List.getElem?_eq_getElem hir)
      rw [hb] at h1; cases h1
      exact ⟨_, List.getElem?_eq_getElem hir, h2⟩
    walk_at "go"
    refine ⟨rfl, ?_⟩
    walk_at "go"
    refine iteT ?_
    walk_at "go"
    refine w_tupF S' (sqL_of (S'.ex _ _ (e _ _ hr2))) fun q o H2 hc hd S2 => ?_
    obtain ⟨B2, e2, hq, S3⟩ := S2.shut 0
    refine lcp S3 (e.trans e2) hli (by omega) ⟨ts ++ [q], by simp, ?_⟩
    rw [List.take_add_one, hr1]
    exact (hT.mono e2).snoc ⟨o, hc, hd, hq⟩
  · rintro D B' acc H' e S' hli ⟨ts, rfl, hT⟩
    have e1 : rows.take (as.map V.ref).length = rows := List.take_of_length_le (by simp; omega)
    rw [e1] at hT
    walk_at "go"
    refine w_tupF S' (sqL_of (S'.get 0)) fun q o H2 hc hd S2 => ?_
    obtain ⟨B2, e2, hq, S3⟩ := (S2.drop 1).shut 0
    walk_at "go"
    refine w_sfldE S3 0 rfl TW_.cl TW_.nw (by simp) fun H3 S4 => ?_
    obtain ⟨B3, e3, hx, S5⟩ := S4.shut 0
    refine hQ B3 H3 ((e.trans e2).trans e3) (S5.drop 0) ⟨dx, q, hx, ts, ?_, (hT.mono e2).mono e3⟩
    exact ⟨o, hc, hd, e3 _ _ hq⟩
end
end Rw

namespace Rw
open PySem PySem.Spec PyProof.Rows L2
local macro_rules | `(tactic| walk_at "go1") => `(tactic| first
  | (with_reducible refine w_seq ?_)
  | (with_reducible refine w_asg ?_)
  | (with_reducible refine w_name ?_)
  | (with_reducible refine w_drop ?_)
  | (with_reducible refine w_ret ?_)
  | (with_reducible refine w_next ?_)
  | (with_reducible refine w_op ?_)
  | (with_reducible refine w_un ?_)
  | (with_reducible refine w_c ?_)
  | (with_reducible refine w_var (by with_unfolding_all rfl) ?_)
  | (with_reducible refine w_rI0 ?_)
  | (with_reducible refine w_rU ?_)
  | ((with_reducible refine w_mod ?_ ?_); (show (0 : Int) < _); omega)
  | ((with_reducible refine w_div ?_ ?_); exact And.intro (by omega) (by omega))
  | ((with_reducible refine w_mul ?_ ?_); (first | exact Or.inl (And.intro (by omega) (by omega)) | exact Or.inr (And.intro (by omega) (by omega))))
  | (with_reducible refine w_ifS ?_)
  | (with_reducible refine w_if ?_)
  | (with_reducible refine w_test ?_)
  | (with_reducible refine w_B ?_)
  | (with_reducible refine w_bl ?_)
  | (with_reducible refine w_not ?_)
  | (with_reducible refine w_and ?_)
  | (with_reducible refine w_or ?_)
  | (with_reducible refine w_cons ?_)
  | (with_reducible refine w_nil ?_)
  | (with_reducible refine w_call ?_)
  | (with_reducible refine w_cb ?_)
  | (with_reducible refine w_bm0 ?_)
  | (with_reducible refine w_bm ?_)
  | (with_reducible refine w_tlst ?_)
  | (with_reducible refine w_ttup ?_)
  | (with_reducible refine w_sub ?_)
  | (with_reducible refine w_for ?_)
  | (with_reducible refine w_rng1 ?_)
  | ((with_reducible refine w_rngE ?_ ?_ ?_); omega; omega)
  | (with_reducible refine w_iL ?_)
  | (with_reducible refine w_iT ?_)
  | (with_reducible refine w_iE ?_)
  | (with_reducible refine w_iZ ?_)
  | (with_reducible refine w_lc ?_)
  | (with_reducible refine w_yes ?_)
  | (with_reducible refine w_gcons ?_)
  | (with_reducible refine w_gnil ?_)
  | (with_reducible refine w_max2 ?_)
  | (with_reducible refine w_sl ?_)
  | (with_reducible refine w_part ?_)
  | (with_reducible refine w_partI ?_)
  | (with_reducible refine w_nopart ?_)
  | (with_reducible refine w_isT ?_)
  | (with_reducible refine w_notT ?_)
  | (with_reducible refine w_isB ?_)
  | (with_reducible refine w_notB ?_)
  | (with_reducible refine w_isN ?_)
  | (with_reducible refine w_notN ?_)
  | (with_reducible refine w_fld ?_)
  | (with_reducible refine w_ftm ?_)
  | (with_reducible refine w_lrg ?_)
  | (with_reducible refine w_rg1 ?_)
  | (with_reducible refine w_rg1E ?_)
  | (with_reducible refine w_tru ?_)
  | (with_reducible refine w_truB ?_)
  | (with_reducible refine w_truI ?_)
  | (with_reducible refine w_notT' ?_)
  | (with_reducible refine w_andT ?_)
  | (with_reducible refine w_orT ?_)
  | (with_reducible refine w_andV ?_)
  | (with_reducible refine w_orV ?_)
  | (with_reducible refine w_andE ?_)
  | (with_reducible refine w_orE ?_)
  | (with_reducible refine w_notV ?_)
  | (with_reducible refine w_notE ?_)
  | (with_reducible refine w_chain ?_)
  | (with_reducible refine w_chainI ?_)
  | (with_reducible refine w_meth ?_)
  | (with_reducible refine w_make ?_)
  | (with_reducible refine w_sfld ?_))
local macro_rules | `(tactic| walk_at "go") => `(tactic| repeat walk_at "go1")

-- _ways_in: 0 ways, 1 place, 2 row
abbrev s_ways_in : Stmt := top 12
theorem sc_ways_in : FnScope ["ways", "place", "row"] ["ways", "place"] (defScope s_ways_in) := ⟨rfl, rfl, rfl, by decide +kernel, rfl, by decide +kernel, by decide +kernel⟩
-- rests: 0 self, 1 place
abbrev s_Web_rests : Stmt := inClass (top 13) 3
theorem sc_Web_rests : FnScope ["self", "place"] ["self"] (defScope s_Web_rests) := ⟨rfl, rfl, rfl, by decide +kernel, rfl, by decide +kernel, by decide +kernel⟩
-- is_even: 0 self
abbrev s_Web_is_even : Stmt := inClass (top 13) 6
theorem sc_Web_is_even : FnScope ["self"] ["self"] (defScope s_Web_is_even) := ⟨rfl, rfl, rfl, by decide +kernel, rfl, by decide +kernel, by decide +kernel⟩
-- _is_balanced: 0 self, 1 place
abbrev s_Web_is_balanced : Stmt := inClass (top 13) 8
theorem sc_Web_is_balanced : FnScope ["self", "place"] ["self"] (defScope s_Web_is_balanced) := ⟨rfl, rfl, rfl, by decide +kernel, rfl, by decide +kernel, by decide +kernel⟩
-- _is_joined: 0 self, 1 place
abbrev s_Web_is_joined : Stmt := inClass (top 13) 9
theorem sc_Web_is_joined : FnScope ["self", "place"] ["self"] (defScope s_Web_is_joined) := ⟨rfl, rfl, rfl, by decide +kernel, rfl, by decide +kernel, by decide +kernel⟩
def spIsWeb : Sp := fun vs H Q _ => ∃ (B : Hp) (M : List (Addr × HO)) (a : Addr) (rows : List (List Int)), vs = [.ref a] ∧ Hs B M H ∧ LL B a rows ∧ Valid rows ∧ ∀ H', Hs B M H' → Q (.bl true) H'
section
variable {P : Program} {w : World} {K : PySem.W.Frag} {mg : Str → Option Value} {base : Heap} {CW : Addr}
theorem good_is_web {k : Nat} (C : Cal P w K mg base "is_web" k ["thing"] spIsWebD) : Cal P w K mg base "is_web" k ["thing"] spIsWeb := by
  obtain ⟨f, fd, h1, h2, h3, h4, h5⟩ := C.ex
  refine ⟨f, fd, h1, h2, h3, h4.imp fun vs H Q E h => ?_, h5⟩
  obtain ⟨B, M, a, rows, rfl, S, hl, hv, hQ⟩ := h
  exact ⟨B, M, .ref a, true, rfl, S, wbD_good hl hv, hQ⟩
theorem ok_ways_in (T : Names mg) (G : Glo K mg "_ways_in" s_ways_in) : Cal P w K mg base "_ways_in" 1 ["ways", "place"] spWaysIn := by
  refine G.cal (k := 0) sc_ways_in (fun _ _ _ _ _ _ us hl => match us, hl with | [_, _], _ => rfl) (fun vs H Q E h => ?_) (fun f cdv A outer s H vs Q E hr h => ?_)
  · obtain ⟨B, M, t, rows, a, rfl, _⟩ := h; rfl
  obtain ⟨B, M, t, rows, a, rfl, S, ⟨ts, ht, hT⟩, hv, hQ⟩ := h
  have hle := hv.le
  have htl := hT.length
  refine ⟨_, (pss_one (ps_ret (pe_callB (k_sum K rfl) rfl T.n_sum (by decide +kernel) (pa_cons (pe_lc (own := [("row", 2)]) rfl sc_ways_in.nd (pi_tupK K (pv 0)) (blkOk_by (own := [("row", 2)]) (N := ["ways", "place", "row"]) (sc := defScope s_ways_in) (by decide +kernel)) (fun _ _ _ _ _ => (pg_name (i := 2) sc_ways_in.nd rfl (Or.inl rfl))) (fun _ _ _ _ _ => pts_nil) (fun _ _ _ _ _ => (pe_ftm PySem.F.plainAttrs_tuple PySem.F.slot_tuple_count PySem.F.type_tuple_count (k_tcount K) (pv 2) (pa_cons (pv 1) pa_nil)))) pa_nil)))), ?_⟩
  walk_at "go"
  refine w_iTE ((ht.mono S.ex).sq) ?_
  refine lc_F S ht (fun i B' acc => B' = B ∧ acc = ((rows.take i).map fun r => ((r.count a : Nat) : Int)).map V.int) ⟨rfl, rfl⟩ ?_ ?_
  · rintro i x D B' acc H' hi hli e S' ⟨rfl, rfl⟩
    obtain ⟨b, hb, rfl⟩ : ∃ b, ts[i]? = some b ∧ V.ref b = x := by simpa using hi
    have hil : i < ts.length := (List.getElem?_eq_some_iff.mp hb).1
    obtain ⟨r, hr1, hr2⟩ : ∃ r, rows[i]? = some r ∧ FT B' b (r.map V.int) := by
      have hir : i < rows.length := by omega
      obtain ⟨b', h1, h2⟩ := hT.get (i := i) (List.getElem?_eq_getElem hir)
      rw [hb] at h1; cases h1
      exact ⟨_, List.getElem?_eq_getElem hir, h2⟩
    walk_at "go"
    refine ⟨rfl, ?_⟩
    walk_at "go"
    refine iteT ?_
    walk_at "go"
    refine w_ftmE (hr2.mono S'.ex) ?_
    walk_at "go"
    refine w_tcount (hr2.mono S'.ex).sq ?_
    refine lcp S' (Same.refl _) hli (by omega) ⟨rfl, ?_⟩
    rw [List.take_add_one, hr1]
    simp
  · rintro D B' acc H' e S' hli ⟨rfl, rfl⟩
    walk_at "go"
    refine w_sum (sqL_of (S'.get 0)) ?_
    have e1 : rows.take (ts.map V.ref).length = rows := List.take_of_length_le (by simp; omega)
    rw [e1]
    exact hQ _ (S'.drop 0)
theorem ok_rests (T : Names mg) (TW_ : WebT K mg CW) (T_Web : Cls K CW) (G : GloM K CW "rests" "Web.rests" s_Web_rests) (C_Web_many : CalM P w K mg base CW "many" 1 ["self"] (spMany CW)) : CalM P w K mg base CW "rests" 2 ["self"] (spRests CW) := by
  refine G.cal (k := 1) sc_Web_rests (fun _ _ _ _ _ _ us hl => match us, hl with | [_], _ => rfl) (fun vs H Q E h => ?_) (fun f cdv A outer s H vs Q E hr h => ?_)
  · obtain ⟨B, M, a, rows, rfl, _⟩ := h; rfl
  obtain ⟨B, M, a, rows, rfl, S, hw, hv, hQ⟩ := h
  obtain ⟨dx, t, ha, ts, ht, hT⟩ := hw.ex
  have hle := hv.le
  have htl := hT.length
  refine ⟨_, (pss_one (ps_ret (pe_lc (own := [("place", 1)]) rfl sc_Web_rests.nd (pi_range1 rfl T.n_range (pa_cons (pe_calM0 (pv 0) T_Web C_Web_many hr) pa_nil)) (blkOk_by (own := [("place", 1)]) (N := ["self", "place"]) (sc := defScope s_Web_rests) (by decide +kernel)) (fun _ _ _ _ _ => (pg_name (i := 1) sc_Web_rests.nd rfl (Or.inl rfl))) (fun _ _ _ _ _ => pts_one (pt_not (pt_truthK K (pe_ix (k_ixT K) (pe_fldK K (pv 0) rfl) (pv 1) (fun _ _ => rfl)) (by intro _; rfl)))) (fun _ _ _ _ _ => (pv 1))))), ?_⟩
  walk_at "go"
  refine w_methE (S.ex _ _ ha) (look1n (by decide +kernel)) ?_
  walk_at "go"
  refine ⟨a, rows, rfl, hw.mono S.ex, ?_⟩
  walk_at "go"
  refine lc_R S (fun i B' acc => B' = B ∧ acc = (restsTo rows i).map V.int) ⟨rfl, rfl⟩ ?_ ?_
  · rintro i D B' acc H' hi hli e S' ⟨rfl, rfl⟩
    have hir : i < rows.length := by omega
    obtain ⟨tb, htb, hr2⟩ := hT.get (i := i) (List.getElem?_eq_getElem hir)
    walk_at "go"
    refine ⟨rfl, ?_⟩
    walk_at "go"
    refine w_fldE (S'.ex _ _ ha) TW_.cl TW_.nw look1 ?_
    walk_at "go"
    refine w_ixT (v := .ref tb) (ht.mono S'.ex).sq (atI_nat (by rw [List.getElem?_map, htb]; rfl)) ?_
    refine w_truT (hr2.mono S'.ex).sq ?_
    have er : restsTo rows (i + 1) = restsTo rows i ++ if rows[i] = [] then [(i : Int)] else [] := by
      unfold restsTo
      rw [List.range_succ, List.filter_append, List.map_append]
      congr 1
      rw [List.filter_cons, List.getElem?_eq_getElem hir]
      by_cases h : rows[i] = []
      · simp [h]
      · simp [h]
    by_cases h : rows[i] = []
    · rw [h]
      refine iteT ?_
      walk_at "go"
      refine lcp S' (Same.refl _) hli (by omega) ⟨rfl, ?_⟩
      rw [er, if_pos h, List.map_append]; rfl
    · rw [show (!(List.map V.int rows[i]).isEmpty) = true by cases hh : rows[i] with | nil => exact absurd hh h | cons x xs => rfl]
      refine iteF ?_
      refine lcn S' (Same.refl _) hli ⟨rfl, ?_⟩
      rw [er, if_neg h, List.append_nil]
  · rintro D B' acc H' e S' hli ⟨rfl, rfl⟩
    exact hQ D H' S'
end
/-- a list of answers by places, all of them -/
theorem allR (φ : Nat → Bool) (n : Nat) : ((List.range n).map φ).all id = true ↔ ∀ i, i < n → φ i = true := by
  rw [List.all_eq_true]
  constructor
  · intro h i hi
    exact h (φ i) (List.mem_map.mpr ⟨i, List.mem_range.mpr hi, rfl⟩)
  · intro h b hb
    obtain ⟨i, hi, rfl⟩ := List.mem_map.mp hb
    exact h i (List.mem_range.mp hi)
def balB (rows : List (List Int)) (i : Nat) : Bool := decide (waysIn rows (i : Int) = ((rows.getD i []).length : Int))
theorem balB_iff (rows : List (List Int)) : ((List.range rows.length).map (balB rows)).all id = true ↔ Balanced rows := by
  rw [allR]
  constructor
  · intro h i r hr
    have hi := (List.getElem?_eq_some_iff.mp hr).1
    have := of_decide_eq_true (h i hi)
    rw [List.getD_eq_getElem?_getD, hr] at this
    exact this
  · intro h i hi
    refine decide_eq_true ?_
    have := h i _ (List.getElem?_eq_getElem hi)
    rw [List.getD_eq_getElem?_getD, List.getElem?_eq_getElem hi]
    exact this
section
variable {P : Program} {w : World} {K : PySem.W.Frag} {mg : Str → Option Value} {base : Heap} {CW : Addr}
theorem ok_balanced (T : Names mg) (TW_ : WebT K mg CW) (T_Web : Cls K CW) (G : GloM K CW "_is_balanced" "Web._is_balanced" s_Web_is_balanced) (C_Web_many : CalM P w K mg base CW "many" 1 ["self"] (spMany CW)) (C_ways_in : Cal P w K mg base "_ways_in" 1 ["ways", "place"] spWaysIn) : CalM P w K mg base CW "_is_balanced" 2 ["self"] (spBool CW Balanced) := by
  refine G.cal (k := 1) sc_Web_is_balanced (fun _ _ _ _ _ _ us hl => match us, hl with | [_], _ => rfl) (fun vs H Q E h => ?_) (fun f cdv A outer s H vs Q E hr h => ?_)
  · obtain ⟨B, M, a, rows, rfl, _⟩ := h; rfl
  obtain ⟨B, M, a, rows, rfl, S, hw, hv, hQ⟩ := h
  obtain ⟨dx, t, ha, ts, ht, hT⟩ := hw.ex
  have hle := hv.le
  have htl := hT.length
  refine ⟨_, (pss_one (ps_ret (pe_callB (k_all K rfl) rfl T.n_all (by decide +kernel) (pa_cons (pe_lc (own := [("place", 1)]) rfl sc_Web_is_balanced.nd (pi_range1 rfl T.n_range (pa_cons (pe_calM0 (pv 0) T_Web C_Web_many hr) pa_nil)) (blkOk_by (own := [("place", 1)]) (N := ["self", "place"]) (sc := defScope s_Web_is_balanced) (by decide +kernel)) (fun _ _ _ _ _ => (pg_name (i := 1) sc_Web_is_balanced.nd rfl (Or.inl rfl))) (fun _ _ _ _ _ => pts_nil) (fun _ _ _ _ _ => (pe_cmpR op_eq (pe_cal C_ways_in hr rfl (pa_cons (pe_fldK K (pv 0) rfl) (pa_cons (pv 1) pa_nil))) (pe_callB (k_len K) rfl T.n_len boot_len (pa_cons (pe_ix (k_ixT K) (pe_fldK K (pv 0) rfl) (pv 1) (fun _ _ => rfl)) pa_nil)) (nomark _)))) pa_nil)))), ?_⟩
  walk_at "go"
  refine w_methE (S.ex _ _ ha) (look1n (by decide +kernel)) ?_
  walk_at "go"
  refine ⟨a, rows, rfl, hw.mono S.ex, ?_⟩
  walk_at "go"
  refine lc_R S (fun i B' acc => B' = B ∧ acc = ((List.range i).map (balB rows)).map V.bl) ⟨rfl, rfl⟩ ?_ ?_
  · rintro i D B' acc H' hi hli e S' ⟨rfl, rfl⟩
    have hir : i < rows.length := by omega
    obtain ⟨tb, htb, hr2⟩ := hT.get (i := i) (List.getElem?_eq_getElem hir)
    walk_at "go"
    refine ⟨rfl, ?_⟩
    walk_at "go"
    refine iteT ?_
    walk_at "go"
    refine w_fldE (S'.ex _ _ ha) TW_.cl TW_.nw look1 ?_
    walk_at "go"
    refine ⟨B', _, t, rows, (i : Int), rfl, S', ⟨ts, ht, hT⟩, hv, fun H2 S2 => ?_⟩
    walk_at "go"
    refine w_fldE (S2.ex _ _ ha) TW_.cl TW_.nw look1 ?_
    walk_at "go"
    refine w_ixT (v := .ref tb) (ht.mono S2.ex).sq (atI_nat (by rw [List.getElem?_map, htb]; rfl)) ?_
    walk_at "go"
    refine w_lenT (hr2.mono S2.ex).sq ?_
    refine w_eqS rfl ?_
    refine lcp S2 (Same.refl _) hli (by omega) ⟨rfl, ?_⟩
    rw [snoc_map, List.map_append]
    congr 1
    show [V.bl _] = [V.bl _]
    congr 2
    unfold balB
    rw [List.getD_eq_getElem?_getD, List.getElem?_eq_getElem hir]
    simp
  · rintro D B' acc H' e S' hli ⟨rfl, rfl⟩
    walk_at "go"
    refine w_all (sqL_of (S'.get 0)) ?_
    exact hQ _ H' (S'.drop 0) (balB_iff rows)
theorem ok_joined (T : Names mg) (TW_ : WebT K mg CW) (T_Web : Cls K CW) (G : GloM K CW "_is_joined" "Web._is_joined" s_Web_is_joined) (C_Web_many : CalM P w K mg base CW "many" 1 ["self"] (spMany CW)) (C_reached : Cal P w K mg base "_reached" 1 ["ways", "start"] spReached) : CalM P w K mg base CW "_is_joined" 2 ["self"] (spBool CW Joined) := by
  refine G.cal (k := 1) sc_Web_is_joined (fun _ _ _ _ _ _ us hl => match us, hl with | [_], _ => rfl) (fun vs H Q E h => ?_) (fun f cdv A outer s H vs Q E hr h => ?_)
  · obtain ⟨B, M, a, rows, rfl, _⟩ := h; rfl
  obtain ⟨B, M, a, rows, rfl, S, hw, hv, hQ⟩ := h
  obtain ⟨dx, t, ha, hT⟩ := hw.ex
  have hle := hv.le
  refine ⟨_, (pss_one (ps_ret (pe_callB (k_all K rfl) rfl T.n_all (by decide +kernel) (pa_cons (pe_lc (own := [("place", 1)]) rfl sc_Web_is_joined.nd (pi_range1 rfl T.n_range (pa_cons (pe_calM0 (pv 0) T_Web C_Web_many hr) pa_nil)) (blkOk_by (own := [("place", 1)]) (N := ["self", "place"]) (sc := defScope s_Web_is_joined) (by decide +kernel)) (fun _ _ _ _ _ => (pg_name (i := 1) sc_Web_is_joined.nd rfl (Or.inl rfl))) (fun _ _ _ _ _ => pts_nil) (fun _ _ _ _ _ => (pe_cmpR op_eq (pe_callB (k_len K) rfl T.n_len boot_len (pa_cons (pe_cal C_reached hr rfl (pa_cons (pe_fldK K (pv 0) rfl) (pa_cons (pv 1) pa_nil))) pa_nil)) (pe_calM0 (pv 0) T_Web C_Web_many hr) (nomark _)))) pa_nil)))), ?_⟩
  walk_at "go"
  refine w_methE (S.ex _ _ ha) (look1n (by decide +kernel)) ?_
  walk_at "go"
  refine ⟨a, rows, rfl, hw.mono S.ex, ?_⟩
  walk_at "go"
  refine lc_R S (fun i B' acc => B' = B ∧ ∃ bs : List Bool, acc = bs.map V.bl ∧ (bs.all id = true ↔ ∀ j : Nat, j < i → ∀ x : Int, 0 ≤ x → x < (rows.length : Int) → Rch rows (j : Int) x)) ⟨rfl, [], rfl, by simp⟩ ?_ ?_
  · rintro i D B' acc H' hi hli e S' ⟨rfl, bs, rfl, hbs⟩
    have hir : i < rows.length := by omega
    walk_at "go"
    refine ⟨rfl, ?_⟩
    walk_at "go"
    refine iteT ?_
    walk_at "go"
    refine w_fldE (S'.ex _ _ ha) TW_.cl TW_.nw look1 ?_
    walk_at "go"
    refine ⟨B', _, t, rows, (i : Int), rfl, S', hT, hv, by omega, by omega, fun p H2 R S2 nd hR => ?_⟩
    walk_at "go"
    refine w_len (sqL_of (S2.get 0)) ?_
    walk_at "go"
    refine w_methE (S2.ex _ _ ha) (look1n (by decide +kernel)) ?_
    walk_at "go"
    refine ⟨a, rows, rfl, hw.mono S2.ex, ?_⟩
    refine w_eqS rfl ?_
    have hrange : ∀ x ∈ R, 0 ≤ x ∧ x < ((rows.length : Nat) : Int) := fun x hx => ((hR x).mp hx).range hv ⟨by omega, by omega⟩
    refine lcp (S2.drop 0) (Same.refl _) hli (by omega) ⟨rfl, bs ++ [decide (R.length = rows.length)], ?_, ?_⟩
    · rw [List.map_append]
      congr 1
      show [V.bl _] = [V.bl _]
      congr 2
      simp
      omega
    · rw [List.all_append, Bool.and_eq_true, hbs]
      simp only [List.all_cons, List.all_nil, Bool.and_true, id, decide_eq_true_eq]
      rw [pigeon_all nd hrange]
      constructor
      · rintro ⟨h1, h2⟩ j hj x x0 x1
        by_cases hji : j < i
        · exact h1 j hji x x0 x1
        · have : j = i := by omega
          subst this
          exact (hR x).mp (h2 x x0 x1)
      · intro h
        exact ⟨fun j hj => h j (by omega), fun x x0 x1 => (hR x).mpr (h i (by omega) x x0 x1)⟩
  · rintro D B' acc H' e S' hli ⟨rfl, bs, rfl, hbs⟩
    walk_at "go"
    refine w_all (sqL_of (S'.get 0)) ?_
    refine hQ _ H' (S'.drop 0) ?_
    rw [hbs]
    constructor
    · intro h i x i0 i1 x0 x1
      have := h i.toNat (by omega) x x0 x1
      rw [show ((i.toNat : Nat) : Int) = i by omega] at this
      exact this
    · intro h j hj x x0 x1
      exact h (j : Int) x (by omega) (by omega) x0 x1
theorem rests_nil (rows : List (List Int)) : restsTo rows rows.length = [] ↔ ∀ r ∈ rows, r ≠ [] := by
  unfold restsTo
  rw [List.map_eq_nil_iff, List.filter_eq_nil_iff]
  constructor
  · intro h r hr e
    obtain ⟨i, hi, e2⟩ := List.mem_iff_getElem.mp hr
    refine h i (List.mem_range.mpr hi) ?_
    rw [List.getElem?_eq_getElem hi, e2, e]
    rfl
  · intro h i hi
    have hi := List.mem_range.mp hi
    rw [List.getElem?_eq_getElem hi]
    intro e
    have e2 : some rows[i] = some [] := beq_iff_eq.mp e
    exact h rows[i] (List.getElem_mem hi) (Option.some.inj e2)
theorem ok_is_even (T : Names mg) (T_Web : Cls K CW) (G : GloM K CW "is_even" "Web.is_even" s_Web_is_even) (C_Web_rests : CalM P w K mg base CW "rests" 2 ["self"] (spRests CW)) (C_Web_is_balanced : CalM P w K mg base CW "_is_balanced" 2 ["self"] (spBool CW Balanced)) (C_Web_is_joined : CalM P w K mg base CW "_is_joined" 2 ["self"] (spBool CW Joined)) : CalM P w K mg base CW "is_even" 3 ["self"] (spBool CW EvenW) := by
  refine G.cal (k := 2) sc_Web_is_even (fun _ _ _ _ _ _ us hl => match us, hl with | [_], _ => rfl) (fun vs H Q E h => ?_) (fun f cdv A outer s H vs Q E hr h => ?_)
  · obtain ⟨B, M, a, rows, rfl, _⟩ := h; rfl
  obtain ⟨B, M, a, rows, rfl, S, hw, hv, hQ⟩ := h
  obtain ⟨dx, t, ha, hT⟩ := hw.ex
  refine ⟨_, (pss_one (ps_ret (pe_and (pe_notTK K (pe_calM0 (pv 0) T_Web C_Web_rests hr)) (pe_and (pe_calM0 (pv 0) T_Web C_Web_is_balanced hr) (pe_one (pe_calM0 (pv 0) T_Web C_Web_is_joined hr)))))), ?_⟩
  walk_at "go"
  refine w_methE (S.ex _ _ ha) (look1n (by decide +kernel)) ?_
  walk_at "go"
  refine ⟨B, M, a, rows, rfl, S, hw, hv, fun p H2 S2 => ?_⟩
  refine w_truL (sqL_of (S2.get 0)) ?_
  have S3 := S2.drop 0
  by_cases hn : restsTo rows rows.length = []
  · rw [hn]
    have h1 := (rests_nil rows).mp hn
    walk_at "go"
    refine iteT ?_
    walk_at "go"
    refine w_methE (S2.ex _ _ ha) (look1n (by decide +kernel)) ?_
    walk_at "go"
    refine ⟨B, M, a, rows, rfl, S3, hw, hv, fun b H4 S4 hb => ?_⟩
    refine w_andE ?_
    cases b with
    | true =>
      refine iteT ?_
      walk_at "go"
      refine w_methE (S4.ex _ _ ha) (look1n (by decide +kernel)) ?_
      walk_at "go"
      refine ⟨B, M, a, rows, rfl, S4, hw, hv, fun c H5 S5 hc => ?_⟩
      exact hQ c H5 S5 ⟨fun q => ⟨h1, hb.mp rfl, hc.mp q⟩, fun q => hc.mpr q.join⟩
    | false =>
      refine iteF ?_
      exact hQ false H4 S4 ⟨fun q => Bool.noConfusion q, fun q => hb.mpr q.bal⟩
  · have e1 : (!!(List.map V.int (restsTo rows rows.length)).isEmpty) = false := by
      cases h : restsTo rows rows.length with
      | nil => exact absurd h hn
      | cons x xs => rfl
    rw [e1]
    walk_at "go"
    refine iteF ?_
    exact hQ false H2 S3 ⟨fun q => (by cases q), fun q => absurd ((rests_nil rows).mpr q.noRest) hn⟩
end
end Rw

namespace Rw
open PySem PySem.Spec PyProof.Rows L2
local macro_rules | `(tactic| walk_at "go1") => `(tactic| first
  | (with_reducible refine w_seq ?_)
  | (with_reducible refine w_asg ?_)
  | (with_reducible refine w_name ?_)
  | (with_reducible refine w_drop ?_)
  | (with_reducible refine w_ret ?_)
  | (with_reducible refine w_next ?_)
  | (with_reducible refine w_op ?_)
  | (with_reducible refine w_un ?_)
  | (with_reducible refine w_c ?_)
  | (with_reducible refine w_var (by with_unfolding_all rfl) ?_)
  | (with_reducible refine w_rI0 ?_)
  | (with_reducible refine w_rU ?_)
  | ((with_reducible refine w_mod ?_ ?_); (show (0 : Int) < _); omega)
  | ((with_reducible refine w_div ?_ ?_); exact And.intro (by omega) (by omega))
  | ((with_reducible refine w_mul ?_ ?_); (first | exact Or.inl (And.intro (by omega) (by omega)) | exact Or.inr (And.intro (by omega) (by omega))))
  | (with_reducible refine w_ifS ?_)
  | (with_reducible refine w_if ?_)
  | (with_reducible refine w_test ?_)
  | (with_reducible refine w_B ?_)
  | (with_reducible refine w_bl ?_)
  | (with_reducible refine w_not ?_)
  | (with_reducible refine w_and ?_)
  | (with_reducible refine w_or ?_)
  | (with_reducible refine w_cons ?_)
  | (with_reducible refine w_nil ?_)
  | (with_reducible refine w_call ?_)
  | (with_reducible refine w_cb ?_)
  | (with_reducible refine w_bm0 ?_)
  | (with_reducible refine w_bm ?_)
  | (with_reducible refine w_tlst ?_)
  | (with_reducible refine w_ttup ?_)
  | (with_reducible refine w_sub ?_)
  | (with_reducible refine w_for ?_)
  | (with_reducible refine w_rng1 ?_)
  | ((with_reducible refine w_rngE ?_ ?_ ?_); omega; omega)
  | (with_reducible refine w_iL ?_)
  | (with_reducible refine w_iT ?_)
  | (with_reducible refine w_iE ?_)
  | (with_reducible refine w_iZ ?_)
  | (with_reducible refine w_lc ?_)
  | (with_reducible refine w_yes ?_)
  | (with_reducible refine w_gcons ?_)
  | (with_reducible refine w_gnil ?_)
  | (with_reducible refine w_max2 ?_)
  | (with_reducible refine w_sl ?_)
  | (with_reducible refine w_part ?_)
  | (with_reducible refine w_partI ?_)
  | (with_reducible refine w_nopart ?_)
  | (with_reducible refine w_isT ?_)
  | (with_reducible refine w_notT ?_)
  | (with_reducible refine w_isB ?_)
  | (with_reducible refine w_notB ?_)
  | (with_reducible refine w_isN ?_)
  | (with_reducible refine w_notN ?_)
  | (with_reducible refine w_fld ?_)
  | (with_reducible refine w_ftm ?_)
  | (with_reducible refine w_lrg ?_)
  | (with_reducible refine w_rg1 ?_)
  | (with_reducible refine w_rg1E ?_)
  | (with_reducible refine w_tru ?_)
  | (with_reducible refine w_truB ?_)
  | (with_reducible refine w_truI ?_)
  | (with_reducible refine w_notT' ?_)
  | (with_reducible refine w_andT ?_)
  | (with_reducible refine w_orT ?_)
  | (with_reducible refine w_andV ?_)
  | (with_reducible refine w_orV ?_)
  | (with_reducible refine w_andE ?_)
  | (with_reducible refine w_orE ?_)
  | (with_reducible refine w_notV ?_)
  | (with_reducible refine w_notE ?_)
  | (with_reducible refine w_chain ?_)
  | (with_reducible refine w_chainI ?_)
  | (with_reducible refine w_meth ?_)
  | (with_reducible refine w_make ?_)
  | (with_reducible refine w_sfld ?_))
local macro_rules | `(tactic| walk_at "go") => `(tactic| repeat walk_at "go1")

structure NamesL (mg : Str → Option Value) : Prop where
  n_len : mg "len" = none
  n_range : mg "range" = none
  n_list : mg "list" = none
  n_int : mg "int" = none
  n_bool : mg "bool" = none
  n_all : mg "all" = none
  n_sum : mg "sum" = none
  n_set : mg "set" = none
  n_sorted : mg "sorted" = none
  n_isinstance : mg "isinstance" = none
  n_enumerate : mg "enumerate" = none
def spNumbers : Sp := fun vs H Q _ => ∃ (B : Hp) (M : List (Addr × HO)) (p : Addr) (ns : List Int), vs = [.ref p] ∧ Hs B M H ∧ LI B p ns ∧ ns.length ≤ 1000 ∧ ∀ H', Hs B M H' → Q (.bl true) H'
-- _law_numbers: 0 _law_found, 1 _law_one
abbrev s_law_numbers : Stmt := top 16
theorem sc_law_numbers : FnScope ["_law_found", "_law_one"] ["_law_found"] (defScope s_law_numbers) := ⟨rfl, rfl, rfl, by decide +kernel, rfl, by decide +kernel, by decide +kernel⟩
section
variable {P : Program} {w : World} {K : PySem.W.Frag} {mg : Str → Option Value} {base : Heap}
theorem ok_numbers (T : NamesL mg) (G : Glo K mg "_law_numbers" s_law_numbers) : Cal P w K mg base "_law_numbers" 1 ["_law_found"] spNumbers := by
  refine G.cal (k := 0) sc_law_numbers (fun _ _ _ _ _ _ us hl => match us, hl with | [_], _ => rfl) (fun vs H Q E h => ?_) (fun f cdv A outer s H vs Q E hr h => ?_)
  · obtain ⟨B, M, p, ns, rfl, _⟩ := h; rfl
  obtain ⟨B, M, p, ns, rfl, S, hp, hn, hQ⟩ := h
  refine ⟨_, (pss_cons (ps_if (pt_not (pt_val (pe_callB (k_isi K) rfl T.n_isinstance (by decide +kernel) (pa_cons (pv 0) (pa_cons (pe_bltn (v := .ty "list") rfl T.n_list (by decide +kernel) rfl) pa_nil))))) (pss_one (ps_ret pe_bl)) pss_nil) (pss_one (ps_ret (pe_cmpR (k_eqD K hr.units) (pe_lc (own := [("_law_one", 1)]) rfl sc_law_numbers.nd (pi_listK K (pv 0)) (blkOk_by (own := [("_law_one", 1)]) (N := ["_law_found", "_law_one"]) (sc := defScope s_law_numbers) (by decide +kernel)) (fun _ _ _ _ _ => (pg_name (i := 1) sc_law_numbers.nd rfl (Or.inl rfl))) (fun _ _ _ _ _ => pts_one (PW.pt (pw_or (pt_val (pe_callB (k_isi K) rfl T.n_isinstance (by decide +kernel) (pa_cons (pv 1) (pa_cons (pe_bltn (v := .ty "bool") rfl T.n_bool (by decide +kernel) rfl) pa_nil)))) (pw_or1 (pt_not (pt_val (pe_callB (k_isi K) rfl T.n_isinstance (by decide +kernel) (pa_cons (pv 1) (pa_cons (pe_bltn (v := .ty "int") rfl T.n_int (by decide +kernel) rfl) pa_nil))))))))) (fun _ _ _ _ _ => (pv 1))) (pe_lst pa_nil) (nomark _))))), ?_⟩
  walk_at "go"
  refine w_isiL (S.ex _ _ hp) (by decide +kernel : kitB "list" "list" = some true) ?_
  walk_at "go"
  refine iteF ?_
  walk_at "go"
  refine w_iLE (sqL_of (S.ex _ _ hp)) ?_
  refine lc_L S hp (fun i B' acc => B' = B ∧ acc = []) ⟨rfl, rfl⟩ ?_ ?_
  · rintro i x D B' acc H' hi hli e S' ⟨rfl, rfl⟩
    obtain ⟨z, hz, rfl⟩ : ∃ z, ns[i]? = some z ∧ V.int z = x := by simpa using hi
    walk_at "go"
    refine ⟨rfl, ?_⟩
    walk_at "go"
    refine w_isiI (by decide +kernel : kitB "int" "bool" = some false) ?_
    walk_at "go"
    refine iteF ?_
    walk_at "go"
    refine w_isiI (by decide +kernel : kitB "int" "int" = some true) ?_
    walk_at "go"
    refine iteF ?_
    exact lcn S' (Same.refl _) hli ⟨rfl, rfl⟩
  · rintro D B' acc H' e S' hli ⟨rfl, rfl⟩
    walk_at "go"
    refine w_lst S' (len_ok (by simp)) fun q H2 S2 => ?_
    refine w_eqI (xs := []) (ys := []) (S2.get 1) (S2.get 0) ?_
    exact hQ _ ((S2.drop 0).drop 0)
end
/-! ### gathering -/
def Closed (rows : List (List Int)) (F : List Int) : Prop := ∀ b ∈ F, ∀ r, rows[b.toNat]? = some r → ∀ c ∈ r, c ∈ F
structure Gat (rows : List (List Int)) (S F : List Int) : Prop where
  sub : ∀ x ∈ S, x ∈ F
  ok : ∀ x ∈ F, 0 ≤ x ∧ x < (rows.length : Int) ∧ ∃ a ∈ S, Rch rows a x
  few : ∃ D : List Int, D.Nodup ∧ (∀ x ∈ D, x ∈ F) ∧ F.length ≤ S.length + 3 * D.length
def Many (t : Nat) (F : List Int) : Prop := ∃ D : List Int, D.Nodup ∧ (∀ x ∈ D, x ∈ F) ∧ t + 1 ≤ D.length
theorem Gat.len {rows : List (List Int)} {S F : List Int} (h : Gat rows S F) (hv : Valid rows) (hS : S.length ≤ 8) : F.length ≤ 32 := by
  obtain ⟨D, d1, d2, d3⟩ := h.few
  have := pigeon rows.length D d1 fun x hx => ⟨(h.ok x (d2 x hx)).1, (h.ok x (d2 x hx)).2.1⟩
  have := hv.le
  omega
theorem Gat.add {rows : List (List Int)} {S F : List Int} (v : Valid rows) (h : Gat rows S F) {b : Int} {r : List Int} (hb : b ∈ F) (hr : rows[b.toNat]? = some r) : Gat rows S (F ++ r.filter fun x => decide (x ∉ F)) := by
  obtain ⟨D, d1, d2, d3⟩ := h.few
  have hb2 := h.ok b hb
  have hrow := v.row r (List.mem_of_getElem? hr)
  refine ⟨fun x hx => List.mem_append_left _ (h.sub x hx), fun x hx => ?_, ?_⟩
  · rcases List.mem_append.mp hx with q | q
    · exact h.ok x q
    · have hm := (List.mem_filter.mp q).1
      obtain ⟨a, ha, hR⟩ := hb2.2.2
      exact ⟨(hrow.2 x hm).1, (hrow.2 x hm).2, a, ha, .step hR hb2.1 hr hm⟩
  · have hle : (r.filter fun x => decide (x ∉ F)).length ≤ 3 := Nat.le_trans (List.length_filter_le _ _) hrow.1
    cases hf : r.filter fun x => decide (x ∉ F) with
    | nil => exact ⟨D, d1, fun x hx => List.mem_append_left _ (d2 x hx), by simp; omega⟩
    | cons c cs =>
      have hc : c ∈ r.filter fun x => decide (x ∉ F) := by rw [hf]; exact List.mem_cons_self
      have hcF : c ∉ F := of_decide_eq_true (List.mem_filter.mp hc).2
      refine ⟨c :: D, List.nodup_cons.mpr ⟨fun q => hcF (d2 c q), d1⟩, fun x hx => ?_, ?_⟩
      · rcases List.mem_cons.mp hx with rfl | q
        · exact List.mem_append_right _ List.mem_cons_self
        · exact List.mem_append_left _ (d2 x q)
      · rw [hf] at hle
        rw [List.length_append, List.length_cons (as := D)]
        omega
theorem Gat.end_ {rows : List (List Int)} {S F : List Int} (v : Valid rows) (h : Gat rows S F) (hc : Closed rows F) : ∀ x, x ∈ F ↔ ∃ a ∈ S, Rch rows a x := by
  intro x
  have key : ∀ a ∈ S, ∀ y, Rch rows a y → y ∈ F := fun a ha y hR => by
    induction hR with
    | refl => exact h.sub _ ha
    | step h1 h2 h3 h4 ih => exact hc _ ih _ h3 _ h4
  exact ⟨fun hx => (h.ok x hx).2.2, fun ⟨a, ha, hR⟩ => key a ha x hR⟩
theorem many_not {rows : List (List Int)} {S F : List Int} (h : Gat rows S F) : ¬ Many rows.length F := by
  rintro ⟨D, d1, d2, d3⟩
  have := pigeon rows.length D d1 fun x hx => ⟨(h.ok x (d2 x hx)).1, (h.ok x (d2 x hx)).2.1⟩
  omega
def spReachedL : Sp := fun vs H Q _ => ∃ (B : Hp) (M : List (Addr × HO)) (p q : Addr) (rows : List (List Int)) (S : List Int), vs = [.ref p, .ref q] ∧ Hs B M H ∧ LL B p rows ∧ LI B q S ∧ Valid rows ∧ S.length ≤ 8 ∧ (∀ x ∈ S, 0 ≤ x ∧ x < (rows.length : Int)) ∧
  ∀ (a : Addr) (H' : Hp) (L : List Int), Hs B ((a, .lst (L.map V.int)) :: M) H' → L.Pairwise (· < ·) → (∀ x, x ∈ L ↔ ∃ s ∈ S, Rch rows s x) → Q (.ref a) H'
-- _law_reached: 0 _law_rows_here, 1 _law_begins, 2 _law_found, 3 _law_turn, 4 _law_place, 5 _law_other
abbrev s_law_reached : Stmt := top 19
theorem sc_law_reached : FnScope ["_law_rows_here", "_law_begins", "_law_found", "_law_turn", "_law_place", "_law_other"] ["_law_rows_here", "_law_begins"] (defScope s_law_reached) := ⟨rfl, rfl, rfl, by decide +kernel, rfl, by decide +kernel, by decide +kernel⟩
section
variable {P : Program} {w : World} {K : PySem.W.Frag} {mg : Str → Option Value} {base : Heap}
theorem ok_reachedL (T : NamesL mg) (G : Glo K mg "_law_reached" s_law_reached) : Cal P w K mg base "_law_reached" 1 ["_law_rows_here", "_law_begins"] spReachedL := by
  refine G.cal (k := 0) sc_law_reached (fun _ _ _ _ _ _ us hl => match us, hl with | [_, _], _ => rfl) (fun vs H Q E h => ?_) (fun f cdv A outer s H vs Q E hr h => ?_)
  · obtain ⟨B, M, p, q, rows, S, rfl, _⟩ := h; rfl
  obtain ⟨B, M, p, q, rows, S0, rfl, S, ⟨as, hp, hR⟩, hq, hv, hS8, hSr, hQ⟩ := h
  have hle := hv.le
  have hpos := hv.pos
  have hal := hR.length
  refine ⟨_, (pss_cons (ps_set (i := 2) sc_law_reached.nd rfl (Or.inr rfl) (pe_callTy (k_list K) rfl T.n_list (by decide +kernel) (pa_cons (pv 1) pa_nil))) (pss_cons (ps_for PassesOwn.never rfl (pi_range1 rfl T.n_range (pa_cons (pe_callB (k_len K) rfl T.n_len boot_len (pa_cons (pv 0) pa_nil)) pa_nil)) (pg_name (i := 3) sc_law_reached.nd rfl (Or.inl rfl)) (pss_one (ps_for PassesOwn.never rfl (pi_listK K (pe_callTy (k_list K) rfl T.n_list (by decide +kernel) (pa_cons (pv 2) pa_nil))) (pg_name (i := 4) sc_law_reached.nd rfl (Or.inl rfl)) (pss_one (ps_set (i := 2) sc_law_reached.nd rfl (Or.inr rfl) (pe_op op_cat (pv 2) (pe_lc (own := [("_law_other", 5)]) rfl sc_law_reached.nd (pi_listK K (pe_ix (k_ixL K) (pv 0) (pv 4) (fun _ _ => rfl))) (blkOk_by (own := [("_law_other", 5)]) (N := ["_law_rows_here", "_law_begins", "_law_found", "_law_turn", "_law_place", "_law_other"]) (sc := defScope s_law_reached) (by decide +kernel)) (fun _ _ _ _ _ => (pg_name (i := 5) sc_law_reached.nd rfl (Or.inl rfl))) (fun _ _ _ _ _ => pts_one (pt_cmpR (k_notIn K) (pv 5) (pv 2) (by rfl))) (fun _ _ _ _ _ => (pv 5))))))))) (pss_one (ps_ret (pe_callB (k_sortSet w rfl) rfl T.n_sorted (by decide +kernel) (pa_cons (pe_callTy (k_setI K w rfl) rfl T.n_set (by decide +kernel) (pa_cons (pv 2) pa_nil)) pa_nil)))))), ?_⟩
  walk_at "go"
  refine w_listL S (sqL_of (S.ex _ _ hq)) fun f1 H1 S1 => ?_
  walk_at "go"
  refine w_len (sqL_of (S1.ex _ _ hp)) ?_
  rw [List.length_map, hal]
  walk_at "go"
  refine for_rng (fun t σ H => ∃ (f : Addr) (F : List Int) (v3 v4 v5 : Option V), σ = [some (.ref p), some (.ref q), some (.ref f), v3, v4, v5] ∧ Hs B ((f, .lst (F.map V.int)) :: M) H ∧ Gat rows S0 F ∧ (Closed rows F ∨ Many t F))
    ⟨f1, S0, none, none, none, rfl, S1, ⟨fun x h => h, fun x h => ⟨(hSr x h).1, (hSr x h).2, x, h, .refl⟩, [], by simp, by simp, by simp⟩, ?_⟩ ?_ ?_
  · cases S0 with
    | nil => exact .inl fun b hb => by simp at hb
    | cons b bs => exact .inr ⟨[b], by simp, by simp, by simp⟩
  · rintro t σ H2 ht ⟨f, F, v3, v4, v5, rfl, S2, hG, hC⟩
    have hFl := hG.len hv hS8
    walk_at "go"
    refine w_listL S2 (sqL_of (S2.get 0)) fun g H3 S3 => ?_
    refine w_iLE (sqL_of (S3.get 0)) ?_
    refine for_lst (xs := F.map V.int) (fun j σ H => ∃ (f : Addr) (F' : List Int) (v4 v5 : Option V), σ = [some (.ref p), some (.ref q), some (.ref f), some (.int (t : Int)), v4, v5] ∧ Hs B ((g, .lst (F.map V.int)) :: (f, .lst (F'.map V.int)) :: M) H ∧ Gat rows S0 F' ∧ (∀ x ∈ F, x ∈ F') ∧ (∀ b ∈ F.take j, ∀ r, rows[b.toNat]? = some r → ∀ c ∈ r, c ∈ F'))
      ⟨f, F, v4, v5, rfl, S3, hG, fun _ h => h, by simp⟩ (fun i σ H _ ⟨_, _, _, _, _, S4, _⟩ => sqL_of (S4.get 0)) ?_ ?_
    · rintro j x σ H4 hx ⟨f, F', v4, v5, rfl, S4, hG', hsub, hpart⟩
      obtain ⟨b, hb, rfl⟩ : ∃ b, F[j]? = some b ∧ V.int b = x := by simpa using hx
      have hbF := List.mem_of_getElem? hb
      have hbF' := hsub b hbF
      have hb2 := hG'.ok b hbF'
      have hFl' := hG'.len hv hS8
      obtain ⟨r, hr1⟩ : ∃ r, rows[b.toNat]? = some r := ⟨_, List.getElem?_eq_getElem (by omega)⟩
      obtain ⟨ab, hab, hr2⟩ := hR.get hr1
      have hrow := hv.row r (List.mem_of_getElem? hr1)
      walk_at "go"
      refine w_ixL (v := .ref ab) (sqL_of (S4.ex _ _ hp)) (at_of (j := b.toNat) (by omega) (by rw [List.getElem?_map, hab]; rfl)) ?_
      refine w_iLE (sqL_of (S4.ex _ _ hr2)) ?_
      refine lc_L S4 hr2 (fun i B' acc => B' = B ∧ acc = ((r.take i).filter fun x => decide (x ∉ F')).map V.int) ⟨rfl, rfl⟩ ?_ ?_
      · rintro i y D B' acc H5 hi hli e S5 ⟨rfl, rfl⟩
        obtain ⟨c, hc, rfl⟩ : ∃ c, r[i]? = some c ∧ V.int c = y := by simpa using hi
        have hil := (List.getElem?_eq_some_iff.mp hc).1
        walk_at "go"
        refine ⟨rfl, ?_⟩
        walk_at "go"
        refine w_inL (sqL_of (S5.get 2)) rfl (flat_ints _) ?_
        rw [inV_int]
        walk_at "go"
        have et : r.take (i + 1) = r.take i ++ [c] := by rw [List.take_add_one, hc]; rfl
        by_cases hm : c ∈ F'
        · rw [decide_eq_true hm]
          refine iteF ?_
          refine lcn S5 (Same.refl _) hli ⟨rfl, ?_⟩
          rw [et, List.filter_append, List.filter_cons, if_neg (by simp [hm])]
          simp
        · rw [decide_eq_false hm]
          refine iteT ?_
          walk_at "go"
          refine lcp S5 (Same.refl _) hli (by omega) ⟨rfl, ?_⟩
          rw [et, List.filter_append, List.filter_cons, if_pos (by simp [hm])]
          simp
      · rintro D B' acc H5 e S5 hli ⟨rfl, rfl⟩
        rw [List.take_of_length_le (by simp)] at S5
        have hfl : (r.filter fun x => decide (x ∉ F')).length ≤ 3 := Nat.le_trans (List.length_filter_le _ _) hrow.1
        refine w_cat S5 (S5.get 2) (S5.get 0) (small' (m := 40) (by simp only [List.length_map]; omega)) fun z H6 S6 => ?_
        walk_at "go"
        refine ⟨z, F' ++ r.filter fun x => decide (x ∉ F'), some (.int b), v5, rfl, ?_, hG'.add hv hbF' hr1, fun x hx => List.mem_append_left _ (hsub x hx), ?_⟩
        · rw [List.map_append]
          exact ((S6.drop 1).drop 2).first 1
        · intro b' hb' r' hr' c hc
          rw [List.take_add_one, hb] at hb'
          rcases List.mem_append.mp hb' with q | q
          · exact List.mem_append_left _ (hpart b' q r' hr' c hc)
          · have e : b' = b := by simpa using q
            subst e
            rw [hr1] at hr'; cases hr'
            by_cases hm : c ∈ F'
            · exact List.mem_append_left _ hm
            · exact List.mem_append_right _ (List.mem_filter.mpr ⟨hc, decide_eq_true hm⟩)
    · rintro σ H4 ⟨f, F', v4, v5, rfl, S4, hG', hsub, hpart⟩
      rw [List.take_of_length_le (by simp)] at hpart
      refine ⟨f, F', _, v4, v5, rfl, S4.drop 0, hG', ?_⟩
      by_cases hc : Closed rows F'
      · exact .inl hc
      · refine .inr ?_
        rcases hC with hC | ⟨D, d1, d2, d3⟩
        · refine absurd (fun b hb r hr c hcr => ?_) hc
          have hall : ∀ x ∈ F', x ∈ F := fun x hx => by
            obtain ⟨a, ha, hRx⟩ := (hG'.ok x hx).2.2
            exact (hG.end_ hv hC x).mpr ⟨a, ha, hRx⟩
          exact hsub c (hC b (hall b hb) r hr c hcr)
        · have : ∃ y, y ∈ F' ∧ y ∉ F := by
            refine Classical.byContradiction fun hno => hc fun b hb r hr c hcr => ?_
            have hbF : b ∈ F := Classical.byContradiction fun q => hno ⟨b, hb, q⟩
            exact hpart b hbF r hr c hcr
          obtain ⟨y, y1, y2⟩ := this
          refine ⟨y :: D, List.nodup_cons.mpr ⟨fun q => y2 (d2 y q), d1⟩, fun x hx => ?_, by simp; omega⟩
          rcases List.mem_cons.mp hx with rfl | q
          · exact y1
          · exact hsub x (d2 x q)
  · rintro σ H2 ⟨f, F, v3, v4, v5, rfl, S2, hG, hC⟩
    have hFl := hG.len hv hS8
    have hcl : Closed rows F := by
      rcases hC with h | h
      · exact h
      · rw [show ((rows.length : Nat) : Int).toNat = rows.length by omega] at h
        exact absurd h (many_not hG)
    walk_at "go"
    refine w_setI S2 (sqL_of (S2.get 0)) (by omega) fun a n H3 hn S3 => ?_
    walk_at "go"
    refine w_sortSet S3 (S3.get 0) (by omega) fun L b H4 hup hm S4 => ?_
    refine hQ b H4 L ((S4.drop 1).drop 1) hup fun x => ?_
    rw [hm x, decide_eq_true_eq]
    exact hG.end_ hv hcl x
end
end Rw

namespace Rw
open PySem PySem.Spec PyProof.Rows L2
local macro_rules | `(tactic| walk_at "go1") => `(tactic| first
  | (with_reducible refine w_seq ?_)
  | (with_reducible refine w_asg ?_)
  | (with_reducible refine w_name ?_)
  | (with_reducible refine w_drop ?_)
  | (with_reducible refine w_ret ?_)
  | (with_reducible refine w_next ?_)
  | (with_reducible refine w_op ?_)
  | (with_reducible refine w_un ?_)
  | (with_reducible refine w_c ?_)
  | (with_reducible refine w_var (by with_unfolding_all rfl) ?_)
  | (with_reducible refine w_rI0 ?_)
  | (with_reducible refine w_rU ?_)
  | ((with_reducible refine w_mod ?_ ?_); (show (0 : Int) < _); omega)
  | ((with_reducible refine w_div ?_ ?_); exact And.intro (by omega) (by omega))
  | ((with_reducible refine w_mul ?_ ?_); (first | exact Or.inl (And.intro (by omega) (by omega)) | exact Or.inr (And.intro (by omega) (by omega))))
  | (with_reducible refine w_ifS ?_)
  | (with_reducible refine w_if ?_)
  | (with_reducible refine w_test ?_)
  | (with_reducible refine w_B ?_)
  | (with_reducible refine w_bl ?_)
  | (with_reducible refine w_not ?_)
  | (with_reducible refine w_and ?_)
  | (with_reducible refine w_or ?_)
  | (with_reducible refine w_cons ?_)
  | (with_reducible refine w_nil ?_)
  | (with_reducible refine w_call ?_)
  | (with_reducible refine w_cb ?_)
  | (with_reducible refine w_bm0 ?_)
  | (with_reducible refine w_bm ?_)
  | (with_reducible refine w_tlst ?_)
  | (with_reducible refine w_ttup ?_)
  | (with_reducible refine w_sub ?_)
  | (with_reducible refine w_for ?_)
  | (with_reducible refine w_rng1 ?_)
  | ((with_reducible refine w_rngE ?_ ?_ ?_); omega; omega)
  | (with_reducible refine w_iL ?_)
  | (with_reducible refine w_iT ?_)
  | (with_reducible refine w_iE ?_)
  | (with_reducible refine w_iZ ?_)
  | (with_reducible refine w_lc ?_)
  | (with_reducible refine w_yes ?_)
  | (with_reducible refine w_gcons ?_)
  | (with_reducible refine w_gnil ?_)
  | (with_reducible refine w_max2 ?_)
  | (with_reducible refine w_sl ?_)
  | (with_reducible refine w_part ?_)
  | (with_reducible refine w_partI ?_)
  | (with_reducible refine w_nopart ?_)
  | (with_reducible refine w_isT ?_)
  | (with_reducible refine w_notT ?_)
  | (with_reducible refine w_isB ?_)
  | (with_reducible refine w_notB ?_)
  | (with_reducible refine w_isN ?_)
  | (with_reducible refine w_notN ?_)
  | (with_reducible refine w_fld ?_)
  | (with_reducible refine w_ftm ?_)
  | (with_reducible refine w_lrg ?_)
  | (with_reducible refine w_rg1 ?_)
  | (with_reducible refine w_rg1E ?_)
  | (with_reducible refine w_tru ?_)
  | (with_reducible refine w_truB ?_)
  | (with_reducible refine w_truI ?_)
  | (with_reducible refine w_notT' ?_)
  | (with_reducible refine w_andT ?_)
  | (with_reducible refine w_orT ?_)
  | (with_reducible refine w_andV ?_)
  | (with_reducible refine w_orV ?_)
  | (with_reducible refine w_andE ?_)
  | (with_reducible refine w_orE ?_)
  | (with_reducible refine w_notV ?_)
  | (with_reducible refine w_notE ?_)
  | (with_reducible refine w_chain ?_)
  | (with_reducible refine w_chainI ?_)
  | (with_reducible refine w_meth ?_)
  | (with_reducible refine w_make ?_)
  | (with_reducible refine w_sfld ?_))
local macro_rules | `(tactic| walk_at "go") => `(tactic| repeat walk_at "go1")

def spIsEvenL : Sp := fun vs H Q _ => ∃ (B : Hp) (M : List (Addr × HO)) (p : Addr) (rows : List (List Int)), vs = [.ref p] ∧ Hs B M H ∧ LL B p rows ∧ Valid rows ∧ ∀ (b : Bool) (H' : Hp), Hs B M H' → (b = true ↔ EvenW rows) → Q (.bl b) H'
-- _law_is_even: 0 _law_rows_here, 1 _law_every, 2 _law_place, 3 _law_row
abbrev s_law_is_even : Stmt := top 22
theorem sc_law_is_even : FnScope ["_law_rows_here", "_law_every", "_law_place", "_law_row"] ["_law_rows_here"] (defScope s_law_is_even) := ⟨rfl, rfl, rfl, by decide +kernel, rfl, by decide +kernel, by decide +kernel⟩
section
variable {P : Program} {w : World} {K : PySem.W.Frag} {mg : Str → Option Value} {base : Heap} {CW : Addr}
theorem ok_is_evenL (T : NamesL mg) (G : Glo K mg "_law_is_even" s_law_is_even) (C_law_reached : Cal P w K mg base "_law_reached" 1 ["_law_rows_here", "_law_begins"] spReachedL) : Cal P w K mg base "_law_is_even" 2 ["_law_rows_here"] spIsEvenL := by
  refine G.cal (k := 1) sc_law_is_even (fun _ _ _ _ _ _ us hl => match us, hl with | [_], _ => rfl) (fun vs H Q E h => ?_) (fun f cdv A outer s H vs Q E hr h => ?_)
  · obtain ⟨B, M, p, rows, rfl, _⟩ := h; rfl
  obtain ⟨B, M, p, rows, rfl, S, ⟨as, hp, hR⟩, hv, hQ⟩ := h
  have hle := hv.le
  have hal := hR.length
  refine ⟨_, (pss_cons (ps_set (i := 1) sc_law_is_even.nd rfl (Or.inl rfl) (pe_listRg rfl rfl T.n_list (prg_1 rfl T.n_range (pe_callB (k_len K) rfl T.n_len boot_len (pa_cons (pv 0) pa_nil))))) (pss_cons (ps_for PassesOwn.never rfl (pi_listK K (pv 1)) (pg_name (i := 2) sc_law_is_even.nd rfl (Or.inr rfl)) (pss_cons (ps_if (PW.pt (pw_or (pt_cmpR (k_eqD K hr.units) (pe_ix (k_ixL K) (pv 0) (pv 2) (fun _ _ => rfl)) (pe_lst pa_nil) (nomark _)) (pw_or1 (pt_cmpR op_ne (pe_callB (k_sum K rfl) rfl T.n_sum (by decide +kernel) (pa_cons (pe_lc (own := [("_law_row", 3)]) rfl sc_law_is_even.nd (pi_listK K (pv 0)) (blkOk_by (own := [("_law_row", 3)]) (N := ["_law_rows_here", "_law_every", "_law_place", "_law_row"]) (sc := defScope s_law_is_even) (by decide +kernel)) (fun _ _ _ _ _ => (pg_name (i := 3) sc_law_is_even.nd rfl (Or.inl rfl))) (fun _ _ _ _ _ => pts_nil) (fun _ _ _ _ _ => (pe_bmK K PySem.F.plainAttrs_list PySem.F.slot_list_count PySem.F.type_list_count (k_lcount K) (pv 3) (pa_cons (pv 2) pa_nil)))) pa_nil)) (pe_callB (k_len K) rfl T.n_len boot_len (pa_cons (pe_ix (k_ixL K) (pv 0) (pv 2) (fun _ _ => rfl)) pa_nil)) (nomark _))))) (pss_one (ps_ret pe_bl)) pss_nil) (pss_one (ps_if (pt_cmpR (k_neD K hr.units) (pe_cal C_law_reached hr rfl (pa_cons (pv 0) (pa_cons (pe_lst (pa_cons (pv 2) pa_nil)) pa_nil))) (pv 1) (nomark _)) (pss_one (ps_ret pe_bl)) pss_nil)))) (pss_one (ps_ret pe_bl)))), ?_⟩
  walk_at "go"
  refine w_len (sqL_of (S.ex _ _ hp)) ?_
  rw [List.length_map, hal]
  walk_at "go"
  refine w_lrgE S (by omega) (by omega) fun z H1 S1 => ?_
  walk_at "go"
  rw [show ((rows.length : Nat) : Int).toNat = rows.length by omega] at S1
  obtain ⟨B1, e1, hz, S2⟩ := S1.shut 0
  refine w_iLE (sqL_of (S2.ex _ _ hz)) ?_
  refine for_lst (xs := (rangeI rows.length).map V.int) (fun i σ H => ∃ v2 v3 : Option V, σ = [some (.ref p), some (.ref z), v2, v3] ∧ Hs B1 M H ∧ ∀ (j : Nat) (r : List Int), j < i → rows[j]? = some r → r ≠ [] ∧ waysIn rows (j : Int) = (r.length : Int) ∧ ∀ x : Int, 0 ≤ x → x < (rows.length : Int) → Rch rows (j : Int) x)
    ⟨none, none, rfl, S2, fun j r hj => by omega⟩ (fun i σ H _ ⟨_, _, _, S3, _⟩ => sqL_of (S3.ex _ _ hz)) ?_ ?_
  · rintro i x σ H2 hx ⟨v2, v3, rfl, S3, hI⟩
    have hil : i < rows.length := by
      have := (List.getElem?_eq_some_iff.mp hx).1
      rw [List.length_map, rangeI_len] at this
      exact this
    have hxi : x = V.int (i : Int) := by
      rw [List.getElem?_map, rangeI_get hil] at hx
      exact (Option.some.inj hx).symm
    subst hxi
    have hr1 : rows[i]? = some rows[i] := List.getElem?_eq_getElem hil
    obtain ⟨a, ha, hr2⟩ := hR.get hr1
    generalize rows[i] = r at hr1 hr2
    have hp1 := e1 _ _ hp
    have hr21 := e1 _ _ hr2
    walk_at "go"
    refine w_ixL (v := .ref a) (sqL_of (S3.ex _ _ hp1)) (atI_nat (by rw [List.getElem?_map, ha]; rfl)) ?_
    walk_at "go"
    refine w_lst S3 (len_ok (by simp)) fun q H3 S4 => ?_
    refine w_eqI (ys := []) (S4.ex _ _ hr21) (S4.get 0) ?_
    walk_at "go"
    by_cases hrn : r = []
    · rw [decide_eq_true hrn]
      refine iteT ?_
      refine iteT ?_
      walk_at "go"
      refine hQ false _ ((S4.drop 0).less e1) ⟨fun q => Bool.noConfusion q, fun q => ?_⟩
      exact absurd hrn (q.noRest r (List.mem_of_getElem? hr1))
    · rw [decide_eq_false hrn]
      refine iteF ?_
      walk_at "go"
      refine w_iLE (sqL_of (S4.ex _ _ hp1)) ?_
      refine lc_L (S4.drop 0) hp1 (fun k B' acc => B' = B1 ∧ acc = ((rows.take k).map fun r => ((r.count (i : Int) : Nat) : Int)).map V.int) ⟨rfl, rfl⟩ ?_ ?_
      · rintro k y D B' acc H4 hk hli e S5 ⟨rfl, rfl⟩
        obtain ⟨b, hb, rfl⟩ : ∃ b, as[k]? = some b ∧ V.ref b = y := by simpa using hk
        have hkl : k < as.length := (List.getElem?_eq_some_iff.mp hb).1
        obtain ⟨rk, hk1, hk2⟩ : ∃ r, rows[k]? = some r ∧ LI B b r := by
          have hir : k < rows.length := by omega
          obtain ⟨b', h1, h2⟩ := hR.get (i := k) (List.getElem?_eq_getElem hir)
          rw [hb] at h1; cases h1
          exact ⟨_, List.getElem?_eq_getElem hir, h2⟩
        have hk3 := S5.ex _ _ (e1 _ _ hk2)
        walk_at "go"
        refine ⟨rfl, ?_⟩
        walk_at "go"
        refine iteT ?_
        walk_at "go"
        refine ⟨tyL (sqL_of hk3), ?_⟩
        walk_at "go"
        refine w_lcount (sqL_of hk3) ?_
        refine lcp S5 (Same.refl _) hli (by omega) ⟨rfl, ?_⟩
        rw [List.take_add_one, hk1]
        simp
      · rintro D B' acc H4 e S5 hli ⟨rfl, rfl⟩
        have ew : rows.take (as.map V.ref).length = rows := List.take_of_length_le (by simp; omega)
        walk_at "go"
        refine w_sum (sqL_of (S5.get 0)) ?_
        rw [ew]
        walk_at "go"
        refine w_ixL (v := .ref a) (sqL_of (S5.ex _ _ hp1)) (atI_nat (by rw [List.getElem?_map, ha]; rfl)) ?_
        walk_at "go"
        refine w_len (sqL_of (S5.ex _ _ hr21)) ?_
        refine w_neS rfl ?_
        walk_at "go"
        have ed : decide (V.int ((rows.map fun r => ((r.count (i : Int) : Nat) : Int)).sum) = V.int (((r.map V.int).length : Nat) : Int)) = decide (waysIn rows (i : Int) = (r.length : Int)) := by
          exact decide_eq_decide.mpr (by simp [waysIn])
        rw [ed]
        by_cases hw : waysIn rows (i : Int) = (r.length : Int)
        · rw [decide_eq_true hw]
          refine iteF ?_
          walk_at "go"
          refine w_lst (S5.drop 0) (len_ok (by simp)) fun y H5 S6 => ?_
          obtain ⟨B2, e2, hy, S7⟩ := S6.shut 0
          walk_at "go"
          refine ⟨B2, M, p, y, rows, [(i : Int)], rfl, S7, ⟨as, e2 _ _ hp1, (hR.mono e1).mono e2⟩, hy, hv, by simp, ?_, fun c H6 L S8 hup hL => ?_⟩
          · intro x hx
            rw [List.mem_singleton.mp hx]
            omega
          have hL' : ∀ x, x ∈ L ↔ Rch rows (i : Int) x := fun x => by rw [hL x]; simp
          walk_at "go"
          refine w_neI (S8.get 0) (S8.ex _ _ (e2 _ _ hz)) ?_
          walk_at "go"
          by_cases hLe : L = rangeI rows.length
          · rw [decide_eq_true hLe]
            refine iteF ?_
            walk_at "go"
            refine ⟨some (.int (i : Int)), v3, rfl, (S8.drop 0).less e2, fun j r' hj hr' => ?_⟩
            by_cases hji : j < i
            · exact hI j r' hji hr'
            · have : j = i := by omega
              subst this
              rw [hr1] at hr'; cases hr'
              refine ⟨hrn, hw, fun x x0 x1 => (hL' x).mp ?_⟩
              rw [hLe]
              exact mem_rangeI.mpr ⟨x0, x1⟩
          · rw [decide_eq_false hLe]
            refine iteT ?_
            walk_at "go"
            refine hQ false _ ((S8.drop 0).less (e1.trans e2)) ⟨fun q => Bool.noConfusion q, fun q => absurd ?_ hLe⟩
            refine up_eq hup (rangeI_up _) fun x => ?_
            rw [hL' x, mem_rangeI]
            exact ⟨fun h => h.range hv ⟨by omega, by omega⟩, fun h => q.join (i : Int) x (by omega) (by omega) h.1 h.2⟩
        · rw [decide_eq_false hw]
          refine iteT ?_
          walk_at "go"
          refine hQ false _ ((S5.drop 0).less e1) ⟨fun q => Bool.noConfusion q, fun q => absurd (q.bal i r hr1) hw⟩
  · rintro σ H2 ⟨v2, v3, rfl, S3, hI⟩
    rw [List.length_map, rangeI_len] at hI
    walk_at "go"
    refine hQ true _ (S3.less e1) ⟨fun _ => ⟨fun r hr => ?_, fun i r hr => ?_, fun i x i0 i1 x0 x1 => ?_⟩, fun _ => rfl⟩
    · obtain ⟨i, hi, e⟩ := List.mem_iff_getElem.mp hr
      exact (hI i r hi (by rw [List.getElem?_eq_getElem hi, e])).1
    · exact (hI i r (List.getElem?_eq_some_iff.mp hr).1 hr).2.1
    · have hil : i.toNat < rows.length := by omega
      have := (hI i.toNat _ hil (List.getElem?_eq_getElem hil)).2.2 x x0 x1
      rw [show ((i.toNat : Nat) : Int) = i by omega] at this
      exact this
end
/-! ### two rings -/
def spRings : Sp := fun vs H Q _ => ∃ (B : Hp) (M : List (Addr × HO)) (n : Int), vs = [.int n] ∧ 0 ≤ n ∧ Hs B M H ∧ ∀ (rows : List (List Int)) (p : Addr) (B' H' : Hp), Valid rows → Same B B' → Hs B' M H' → LL B' p rows → Q (.ref p) H'
-- _law_rings: 0 _law_number, 1 _law_one, 2 _law_other, 3 _law_rows_here, 4 _law_place
abbrev s_law_rings : Stmt := top 24
theorem sc_law_rings : FnScope ["_law_number", "_law_one", "_law_other", "_law_rows_here", "_law_place"] ["_law_number"] (defScope s_law_rings) := ⟨rfl, rfl, rfl, by decide +kernel, rfl, by decide +kernel, by decide +kernel⟩
theorem LR.append {H : Hp} : ∀ {as bs : List Addr} {xs ys : List (List Int)}, LR H as xs → LR H bs ys → LR H (as ++ bs) (xs ++ ys)
  | _, _, _, _, .nil, h => h
  | _, _, _, _, .cons r t, h => .cons r (LR.append t h)
section
variable {P : Program} {w : World} {K : PySem.W.Frag} {mg : Str → Option Value} {base : Heap}
theorem ok_rings (T : NamesL mg) (G : Glo K mg "_law_rings" s_law_rings) : Cal P w K mg base "_law_rings" 1 ["_law_number"] spRings := by
  refine G.cal (k := 0) sc_law_rings (fun _ _ _ _ _ _ us hl => match us, hl with | [_], _ => rfl) (fun vs H Q E h => ?_) (fun f cdv A outer s H vs Q E hr h => ?_)
  · obtain ⟨B, M, n, rfl, _⟩ := h; rfl
  obtain ⟨B, M, n, rfl, n0, S, hQ⟩ := h
  refine ⟨_, (pss_cons (ps_asg (pe_tup (pa_cons (pe_op op_add pe_int (pe_op op_mod (pv 0) pe_int)) (pa_cons (pe_op op_add pe_int (pe_op op_mod (pe_op op_fdiv (pv 0) pe_int) pe_int)) pa_nil))) (pg_tupK (n := 2) K rfl (pgs_cons (pg_name (i := 1) sc_law_rings.nd rfl (Or.inr rfl)) (pgs_cons (pg_name (i := 2) sc_law_rings.nd rfl (Or.inr rfl)) pgs_nil)))) (pss_cons (ps_setLc (i := 3) (own := [("_law_place", 4)]) rfl sc_law_rings.nd rfl rfl (sw_true rfl rfl rfl (by decide +kernel)) (pi_range1 rfl T.n_range (pa_cons (pv 1) pa_nil)) (blkOk_by (own := [("_law_place", 4)]) (N := ["_law_number", "_law_one", "_law_other", "_law_rows_here", "_law_place"]) (sc := defScope s_law_rings) (by decide +kernel)) (fun _ _ _ _ _ => (pg_name (i := 4) sc_law_rings.nd rfl (Or.inl rfl))) (fun _ _ _ _ _ => pts_nil) (fun _ _ _ _ _ => (pe_lst (pa_cons (pe_op op_mod (pe_op op_add (pv 4) pe_int) (pv 1)) pa_nil)))) (pss_one (ps_ret (pe_op op_cat (pv 3) (pe_lc (own := [("_law_place", 4)]) rfl sc_law_rings.nd (pi_range1 rfl T.n_range (pa_cons (pv 2) pa_nil)) (blkOk_by (own := [("_law_place", 4)]) (N := ["_law_number", "_law_one", "_law_other", "_law_rows_here", "_law_place"]) (sc := defScope s_law_rings) (by decide +kernel)) (fun _ _ _ _ _ => (pg_name (i := 4) sc_law_rings.nd rfl (Or.inl rfl))) (fun _ _ _ _ _ => pts_nil) (fun _ _ _ _ _ => (pe_lst (pa_cons (pe_op op_add (pv 1) (pe_op op_mod (pe_op op_add (pv 4) pe_int) (pv 2))) pa_nil))))))))), ?_⟩
  walk_at "go"
  refine w_tup S (len_ok (by simp)) fun t0 H0 S0 => ?_
  refine w_gtup (sqT_of (S0.get 0)) rfl ?_
  replace S := S0.drop 0
  have ho : 1 ≤ 1 + n % 4 ∧ 1 + n % 4 ≤ 4 := by omega
  have hu : 1 ≤ 1 + n / 4 % 4 ∧ 1 + n / 4 % 4 ≤ 4 := by omega
  generalize 1 + n % 4 = one at *
  generalize 1 + n / 4 % 4 = oth at *
  walk_at "go"
  refine lc_R S (fun i B' acc => ∃ as : List Addr, acc = as.map V.ref ∧ LR B' as ((List.range i).map fun j : Nat => [((j : Int) + 1) % one])) ⟨[], rfl, .nil⟩ ?_ ?_
  · rintro i D B' acc H' hi hli e S' ⟨as, rfl, hR⟩
    walk_at "go"
    refine ⟨rfl, ?_⟩
    walk_at "go"
    refine iteT ?_
    walk_at "go"
    refine w_lst S' (len_ok (by simp)) fun q H2 S2 => ?_
    obtain ⟨B2, e2, hq, S3⟩ := S2.shut 0
    refine lcp S3 (e.trans e2) hli (by omega) ⟨as ++ [q], by simp, ?_⟩
    rw [snoc_map]
    exact (hR.mono e2).snoc hq
  · rintro D B1 acc H1 e1 S1 hl1 ⟨as, rfl, hR⟩
    have hla := hR.length
    walk_at "go"
    refine lc_R S1 (fun i B' acc => ∃ bs : List Addr, acc = bs.map V.ref ∧ LR B' bs ((List.range i).map fun j : Nat => [one + ((j : Int) + 1) % oth])) ⟨[], rfl, .nil⟩ ?_ ?_
    · rintro i D2 B' acc H' hi hli e S' ⟨bs, rfl, hR2⟩
      walk_at "go"
      refine ⟨rfl, ?_⟩
      walk_at "go"
      refine iteT ?_
      walk_at "go"
      refine w_lst S' (len_ok (by simp)) fun q H2 S2 => ?_
      obtain ⟨B2, e2, hq, S3⟩ := S2.shut 0
      refine lcp S3 (e.trans e2) hli (by omega) ⟨bs ++ [q], by simp, ?_⟩
      rw [snoc_map]
      exact (hR2.mono e2).snoc hq
    · rintro D2 B2 acc H2 e2 S2 hl2 ⟨bs, rfl, hR2⟩
      have hlb := hR2.length
      simp only [List.length_map, List.length_range] at hla hlb
      refine w_cat S2 (S2.get 1) (S2.get 0) (small' (m := 40) (by simp only [List.length_map]; omega)) fun z H3 S3 => ?_
      obtain ⟨B3, e3, hz, S4⟩ := S3.shut 0
      refine hQ _ z B3 _ ?_ ((e1.trans e2).trans e3) ((S4.drop 0).drop 0) ⟨as ++ bs, by rw [hz, List.map_append], ((hR.mono e2).append hR2).mono e3⟩
      refine ⟨by simp; omega, by simp; omega, fun r hr => ?_⟩
      simp only [List.length_append, List.length_map, List.length_range]
      rcases List.mem_append.mp hr with q | q
      · obtain ⟨j, hj, rfl⟩ := List.mem_map.mp q
        refine ⟨by simp, fun x hx => ?_⟩
        rw [List.mem_singleton.mp hx]
        have h1 := Int.emod_nonneg ((j : Int) + 1) (show one ≠ 0 by omega)
        have h2 := Int.emod_lt_of_pos ((j : Int) + 1) (show 0 < one by omega)
        omega
      · obtain ⟨j, hj, rfl⟩ := List.mem_map.mp q
        refine ⟨by simp, fun x hx => ?_⟩
        rw [List.mem_singleton.mp hx]
        have h1 := Int.emod_nonneg ((j : Int) + 1) (show oth ≠ 0 by omega)
        have h2 := Int.emod_lt_of_pos ((j : Int) + 1) (show 0 < oth by omega)
        omega
end
end Rw

namespace Rw
open PySem PySem.Spec PyProof.Rows L2
local macro_rules | `(tactic| walk_at "go1") => `(tactic| first
  | (with_reducible refine w_seq ?_)
  | (with_reducible refine w_asg ?_)
  | (with_reducible refine w_name ?_)
  | (with_reducible refine w_drop ?_)
  | (with_reducible refine w_ret ?_)
  | (with_reducible refine w_next ?_)
  | (with_reducible refine w_op ?_)
  | (with_reducible refine w_un ?_)
  | (with_reducible refine w_c ?_)
  | (with_reducible refine w_var (by with_unfolding_all rfl) ?_)
  | (with_reducible refine w_rI0 ?_)
  | (with_reducible refine w_rU ?_)
  | ((with_reducible refine w_mod ?_ ?_); (show (0 : Int) < _); omega)
  | ((with_reducible refine w_div ?_ ?_); exact And.intro (by omega) (by omega))
  | ((with_reducible refine w_mul ?_ ?_); (first | exact Or.inl (And.intro (by omega) (by omega)) | exact Or.inr (And.intro (by omega) (by omega))))
  | (with_reducible refine w_ifS ?_)
  | (with_reducible refine w_if ?_)
  | (with_reducible refine w_test ?_)
  | (with_reducible refine w_B ?_)
  | (with_reducible refine w_bl ?_)
  | (with_reducible refine w_not ?_)
  | (with_reducible refine w_and ?_)
  | (with_reducible refine w_or ?_)
  | (with_reducible refine w_cons ?_)
  | (with_reducible refine w_nil ?_)
  | (with_reducible refine w_call ?_)
  | (with_reducible refine w_cb ?_)
  | (with_reducible refine w_bm0 ?_)
  | (with_reducible refine w_bm ?_)
  | (with_reducible refine w_tlst ?_)
  | (with_reducible refine w_ttup ?_)
  | (with_reducible refine w_sub ?_)
  | (with_reducible refine w_for ?_)
  | (with_reducible refine w_rng1 ?_)
  | ((with_reducible refine w_rngE ?_ ?_ ?_); omega; omega)
  | (with_reducible refine w_iL ?_)
  | (with_reducible refine w_iT ?_)
  | (with_reducible refine w_iE ?_)
  | (with_reducible refine w_iZ ?_)
  | (with_reducible refine w_lc ?_)
  | (with_reducible refine w_yes ?_)
  | (with_reducible refine w_gcons ?_)
  | (with_reducible refine w_gnil ?_)
  | (with_reducible refine w_max2 ?_)
  | (with_reducible refine w_sl ?_)
  | (with_reducible refine w_part ?_)
  | (with_reducible refine w_partI ?_)
  | (with_reducible refine w_nopart ?_)
  | (with_reducible refine w_isT ?_)
  | (with_reducible refine w_notT ?_)
  | (with_reducible refine w_isB ?_)
  | (with_reducible refine w_notB ?_)
  | (with_reducible refine w_isN ?_)
  | (with_reducible refine w_notN ?_)
  | (with_reducible refine w_fld ?_)
  | (with_reducible refine w_ftm ?_)
  | (with_reducible refine w_lrg ?_)
  | (with_reducible refine w_rg1 ?_)
  | (with_reducible refine w_rg1E ?_)
  | (with_reducible refine w_tru ?_)
  | (with_reducible refine w_truB ?_)
  | (with_reducible refine w_truI ?_)
  | (with_reducible refine w_notT' ?_)
  | (with_reducible refine w_andT ?_)
  | (with_reducible refine w_orT ?_)
  | (with_reducible refine w_andV ?_)
  | (with_reducible refine w_orV ?_)
  | (with_reducible refine w_andE ?_)
  | (with_reducible refine w_orE ?_)
  | (with_reducible refine w_notV ?_)
  | (with_reducible refine w_notE ?_)
  | (with_reducible refine w_chain ?_)
  | (with_reducible refine w_chainI ?_)
  | (with_reducible refine w_meth ?_)
  | (with_reducible refine w_make ?_)
  | (with_reducible refine w_sfld ?_))
local macro_rules | `(tactic| walk_at "go") => `(tactic| repeat walk_at "go1")

/-! ### what stands is changed, known anew -/
section
variable {B B1 H : Hp} {M : List (Addr × HO)} {a : Addr} {o o' : HO} {xs : List V} {y : V} {Q : VK}
theorem Hs.over (S : Hs B M H) (h : B a = some o) (o' : HO) : Hs (upd B a o') M (upd H a o') := by
  refine ⟨fun b u e => ?_, fun c hc => ?_, S.nd⟩
  · by_cases hb : b = a
    · subst hb
      rw [upd_same] at e ⊢
      exact e
    · rw [upd_ne hb] at e ⊢
      exact S.ex b u e
  · obtain ⟨h1, h2⟩ := S.cel c hc
    have hn : c.1 ≠ a := fun e => by rw [e, h] at h1; cases h1
    exact ⟨by rw [upd_ne hn]; exact h1, by rw [upd_ne hn]; exact h2⟩
theorem Same.updO (e : Same B1 B) (h : B1 a = none) : Same B1 (upd B a o) := fun b u q => by
  rw [upd_ne (ne_of_none q h)]
  exact e b u q
theorem w_appendB (S : Hs B M H) (h : B a = some (.lst xs)) (hl : xs.length < sizeLine) (k : ∀ H', Hs (upd B a (.lst (xs ++ [y]))) M H' → Q .non H') : rAppend (.ref a) [y] H Q :=
  ⟨a, xs, y, rfl, rfl, S.ex _ _ h, hl, k _ (S.over h _)⟩
theorem w_insertB {j : Int} (S : Hs B M H) (h : B a = some (.lst xs)) (hl : xs.length < sizeLine) (h0 : 0 ≤ j) (h1 : j < 2 ^ 63) (k : ∀ H', Hs (upd B a (.lst (xs.take j.toNat ++ [y] ++ xs.drop j.toNat))) M H' → Q .non H') : rInsX (.ref a) [.int j, y] H Q :=
  ⟨a, xs, j, y, rfl, rfl, S.ex _ _ h, hl, h0, h1, k _ (S.over h _)⟩
theorem LR.off : ∀ {as : List Addr} {R : List (List Int)}, LR B as R → a ∉ as → LR (upd B a o) as R
  | _, _, .nil, _ => .nil
  | _, _, .cons r t, h => .cons ((upd_ne (fun q => h (by rw [← q]; exact List.mem_cons_self))).trans r) (LR.off t fun q => h (List.mem_cons_of_mem _ q))
theorem LR.upd : ∀ {as : List Addr} {R : List (List Int)} {i : Nat} {r : List Int}, LR B as R → as.Nodup → as[i]? = some a → LR (L2.upd B a (.lst (r.map V.int))) as (R.set i r)
  | _, _, _, _, .nil, _, h => by simp at h
  | _, _, 0, r, .cons _ t, nd, h => by
    simp at h
    subst h
    exact .cons upd_same (LR.off t (List.nodup_cons.mp nd).1)
  | b :: as, _, i + 1, r, .cons q t, nd, h => by
    have h : as[i]? = some a := by simpa using h
    have hn : b ≠ a := fun e => (List.nodup_cons.mp nd).1 (e ▸ List.mem_of_getElem? h)
    exact .cons ((upd_ne hn).trans q) (LR.upd t (List.nodup_cons.mp nd).2 h)
end
/-! ### even webs -/
theorem perm_erase {α : Type} : ∀ {xs : List α} {i : Nat} {x : α}, xs[i]? = some x → (x :: xs.eraseIdx i).Perm xs
  | [], _, _, h => by simp at h
  | y :: ys, 0, x, h => by simp at h; subst h; exact List.Perm.refl _
  | y :: ys, i + 1, x, h => by
    have ih := perm_erase (xs := ys) (i := i) (x := x) (by simpa using h)
    rw [List.eraseIdx_cons_succ]
    exact (List.Perm.swap y x _).trans (ih.cons y)
theorem nodup_rangeI (n : Nat) : (rangeI n).Nodup := by
  refine (rangeI_up n).imp fun h => ?_
  omega
theorem count_rangeI {n : Nat} {x : Int} (h0 : 0 ≤ x) (h1 : x < (n : Int)) : (rangeI n).count x = 1 := by
  have := (nodup_rangeI n).count (a := x)
  rw [this, if_pos (mem_rangeI.mpr ⟨h0, h1⟩)]
/-- one more way in a row -/
theorem waysIn_set {R : List (List Int)} {x : Nat} {r r' : List Int} {g : Int} (hx : R[x]? = some r) (hc : ∀ i, r'.count i = r.count i + if g = i then 1 else 0) (i : Int) : waysIn (R.set x r') i = waysIn R i + if g = i then 1 else 0 := by
  unfold waysIn
  rw [List.map_set]
  rw [sum_set (z := ((r.count i : Nat) : Int)) (by rw [List.getElem?_map, hx]; rfl), hc i]
  split <;> omega
theorem count_ins (xs : List Int) (j : Nat) (g i : Int) : (xs.take j ++ [g] ++ xs.drop j).count i = xs.count i + if g = i then 1 else 0 := by
  have h : xs.count i = (xs.take j).count i + (xs.drop j).count i := by rw [← List.count_append, List.take_append_drop]
  rw [List.count_append, List.count_append, h, List.count_singleton]
  by_cases e : g = i
  · simp [e]; omega
  · simp [e]
theorem waysIn_nil (n : Nat) (i : Int) : waysIn (List.replicate n []) i = 0 := by
  unfold waysIn
  rw [List.map_replicate]
  simp
/-- the t-th of a ring -/
def ringAt (n : Nat) (O : List Int) (t : Nat) : Int := O.getD (t % n) 0
def RingIn (n : Nat) (O : List Int) (R : List (List Int)) : Prop := ∀ t, ∃ r, R[(ringAt n O t).toNat]? = some r ∧ ringAt n O (t + 1) ∈ r
/-- rows as they stand when so many ways go in and out at each place -/
structure EvS (n : Nat) (O : List Int) (R : List (List Int)) : Prop where
  len : R.length = n
  rng : ∀ r ∈ R, ∀ x ∈ r, 0 ≤ x ∧ x < (n : Int)
  ring : RingIn n O R
theorem Rch.trans {R : List (List Int)} {a b c : Int} (h : Rch R a b) (h2 : Rch R b c) : Rch R a c := by
  induction h2 with
  | refl => exact h
  | step q1 q2 q3 q4 ih => exact .step ih q2 q3 q4
theorem ring_rch {n : Nat} {O : List Int} {R : List (List Int)} (h : RingIn n O R) (hr : ∀ t, 0 ≤ ringAt n O t) (s : Nat) : ∀ d, Rch R (ringAt n O s) (ringAt n O (s + d))
  | 0 => .refl
  | d + 1 => by
    obtain ⟨r, h1, h2⟩ := h (s + d)
    exact .step (ring_rch h hr s d) (hr _) h1 h2
theorem EvS.even {n c : Nat} {O : List Int} {R : List (List Int)} (h : EvS n O R) (hO : O.Perm (rangeI n)) (hn : 0 < n) (hc : 1 ≤ c) (hl : ∀ r ∈ R, r.length = c) (hw : ∀ i : Int, 0 ≤ i → i < (n : Int) → waysIn R i = (c : Int)) : EvenW R := by
  have hOl : O.length = n := by rw [hO.length_eq, rangeI_len]
  have hat : ∀ t, ringAt n O t ∈ O := fun t => by
    unfold ringAt
    have : t % n < O.length := by rw [hOl]; exact Nat.mod_lt _ hn
    rw [List.getD_eq_getElem?_getD, List.getElem?_eq_getElem this]
    exact List.getElem_mem this
  have hat0 : ∀ t, 0 ≤ ringAt n O t := fun t => (mem_rangeI.mp (hO.mem_iff.mp (hat t))).1
  refine ⟨fun r hr e => ?_, fun i r hr => ?_, fun i x i0 i1 x0 x1 => ?_⟩
  · have := hl r hr
    rw [e] at this
    simp at this
    omega
  · have hi := (List.getElem?_eq_some_iff.mp hr).1
    rw [h.len] at hi
    rw [hw (i : Int) (by omega) (by omega), hl r (List.mem_of_getElem? hr)]
  · rw [h.len] at i1 x1
    have find : ∀ y : Int, 0 ≤ y → y < (n : Int) → ∃ t, t < n ∧ ringAt n O t = y := fun y y0 y1 => by
      obtain ⟨t, ht, e⟩ := List.mem_iff_getElem.mp (hO.mem_iff.mpr (mem_rangeI.mpr ⟨y0, y1⟩))
      have ht' : t < n := by rw [hOl] at ht; exact ht
      refine ⟨t, ht', ?_⟩
      unfold ringAt
      rw [Nat.mod_eq_of_lt ht', List.getD_eq_getElem?_getD, List.getElem?_eq_getElem ht, e]
      rfl
    obtain ⟨s, hs, es⟩ := find i i0 i1
    obtain ⟨t, ht, et⟩ := find x x0 x1
    have := ring_rch h.ring hat0 s (n - s + t)
    have e2 : ringAt n O (s + (n - s + t)) = ringAt n O t := by
      unfold ringAt
      rw [show s + (n - s + t) = n + t by omega, Nat.add_mod_left]
    rw [e2, es, et] at this
    exact this
/-- while the ring is laid: the first ones have their way -/
structure Lay (n : Nat) (O : List Int) (j : Nat) (R : List (List Int)) : Prop where
  len : R.length = n
  done : ∀ t, t < j → R[(ringAt n O t).toNat]? = some [ringAt n O (t + 1)]
  rest : ∀ i : Nat, i < n → (i : Int) ∉ O.take j → R[i]? = some []
  wIn : ∀ i, waysIn R i = ((((List.range j).map fun t => ringAt n O (t + 1)).count i : Nat) : Int)
theorem Lay.zero (n : Nat) (O : List Int) : Lay n O 0 (List.replicate n []) :=
  ⟨by simp, fun t h => by omega, fun i hi _ => by rw [List.getElem?_replicate, if_pos hi], fun i => by rw [waysIn_nil]; simp⟩
theorem Lay.turn {n j : Nat} {O : List Int} {R : List (List Int)} (h : Lay n O j R) (hO : O.Perm (rangeI n)) (hj : j < n) : R[(ringAt n O j).toNat]? = some [] ∧ Lay n O (j + 1) (R.set (ringAt n O j).toNat [ringAt n O (j + 1)]) := by
  have hOl : O.length = n := by rw [hO.length_eq, rangeI_len]
  have hnd : O.Nodup := hO.nodup_iff.mpr (nodup_rangeI n)
  have hat : ∀ t, t < n → O[t]? = some (ringAt n O t) := fun t ht => by
    unfold ringAt
    rw [Nat.mod_eq_of_lt ht, List.getD_eq_getElem?_getD, List.getElem?_eq_getElem (by omega)]
    rfl
  have hr : ∀ t, t < n → 0 ≤ ringAt n O t ∧ ringAt n O t < (n : Int) := fun t ht => mem_rangeI.mp (hO.mem_iff.mp (List.mem_of_getElem? (hat t ht)))
  have hx := hr j hj
  have hxe : (((ringAt n O j).toNat : Nat) : Int) = ringAt n O j := by omega
  have hinj : ∀ t, t < n → t ≠ j → ringAt n O t ≠ ringAt n O j := fun t ht hne e => by
    refine hne ?_
    have h1 := hat t ht
    have h2 := hat j hj
    rw [e] at h1
    exact nd_ix hnd h1 h2
  have hnot : ringAt n O j ∉ O.take j := fun hm => by
    obtain ⟨t, e⟩ := List.mem_iff_getElem?.mp hm
    have ht := (List.getElem?_eq_some_iff.mp e).1
    have htj : t < j := by rw [List.length_take] at ht; omega
    rw [List.getElem?_take, if_pos htj] at e
    rw [hat t (by omega)] at e
    exact hinj t (by omega) (by omega) (Option.some.inj e)
  have h0 : R[(ringAt n O j).toNat]? = some [] := h.rest _ (by omega) (by rw [hxe]; exact hnot)
  refine ⟨h0, by rw [List.length_set]; exact h.len, fun t ht => ?_, fun i hi hm => ?_, fun i => ?_⟩
  · by_cases e : t = j
    · subst e
      rw [List.getElem?_set_self (by rw [h.len]; omega)]
    · have := hinj t (by omega) e
      have := hr t (by omega)
      rw [List.getElem?_set_ne (by omega)]
      exact h.done t (by omega)
  · rw [List.take_add_one, hat j hj] at hm
    have h1 : (i : Int) ∉ O.take j := fun q => hm (List.mem_append_left _ q)
    have h2 : (i : Int) ≠ ringAt n O j := fun q => hm (List.mem_append_right _ (by rw [q]; exact List.mem_singleton.mpr rfl))
    rw [List.getElem?_set_ne (by omega)]
    exact h.rest i hi h1
  · rw [waysIn_set h0 (g := ringAt n O (j + 1)) (fun i => by simp [List.count_singleton]) i, h.wIn i, snoc_map, List.count_append, List.count_singleton]
    by_cases e : ringAt n O (j + 1) = i
    · simp [e]
    · simp [e]
theorem rot_perm {n : Nat} {O : List Int} (hO : O.length = n) (hn : 0 < n) : ((List.range n).map fun t => ringAt n O (t + 1)).Perm O := by
  have e : ((List.range n).map fun t => ringAt n O (t + 1)) = O.drop 1 ++ O.take 1 := by
    refine List.ext_getElem? fun t => ?_
    by_cases ht : t < n
    · rw [List.getElem?_map, List.getElem?_range ht]
      by_cases h1 : t + 1 < n
      · rw [List.getElem?_append_left (by rw [List.length_drop]; omega), List.getElem?_drop]
        show some (ringAt n O (t + 1)) = _
        unfold ringAt
        rw [Nat.mod_eq_of_lt h1, List.getD_eq_getElem?_getD, show 1 + t = t + 1 by omega, List.getElem?_eq_getElem (by omega)]
        rfl
      · have e2 : t + 1 = n := by omega
        rw [List.getElem?_append_right (by rw [List.length_drop]; omega), List.length_drop, List.getElem?_take, if_pos (by omega)]
        show some (ringAt n O (t + 1)) = _
        unfold ringAt
        rw [e2, Nat.mod_self, List.getD_eq_getElem?_getD, show t - (O.length - 1) = 0 by omega, List.getElem?_eq_getElem (by omega)]
        rfl
    · rw [List.getElem?_eq_none (by simp; omega), List.getElem?_eq_none (by simp; omega)]
  rw [e]
  exact (List.perm_append_comm).trans (by rw [List.take_append_drop])
theorem Lay.done_ {n : Nat} {O : List Int} {R : List (List Int)} (h : Lay n O n R) (hO : O.Perm (rangeI n)) (hn : 0 < n) : EvS n O R ∧ (∀ r ∈ R, r.length = 1) ∧ ∀ i : Int, 0 ≤ i → i < (n : Int) → waysIn R i = 1 := by
  have hOl : O.length = n := by rw [hO.length_eq, rangeI_len]
  have hat : ∀ t, ringAt n O t ∈ O := fun t => by
    unfold ringAt
    have : t % n < O.length := by rw [hOl]; exact Nat.mod_lt _ hn
    rw [List.getD_eq_getElem?_getD, List.getElem?_eq_getElem this]
    exact List.getElem_mem this
  have hmod : ∀ t, ringAt n O (t % n) = ringAt n O t := fun t => by unfold ringAt; rw [Nat.mod_mod]
  have hmod1 : ∀ t, ringAt n O (t % n + 1) = ringAt n O (t + 1) := fun t => by unfold ringAt; rw [Nat.mod_add_mod]
  have all : ∀ r ∈ R, ∃ t, r = [ringAt n O (t + 1)] := fun r hr => by
    obtain ⟨i, hi, e⟩ := List.mem_iff_getElem.mp hr
    rw [h.len] at hi
    obtain ⟨t, ht, e2⟩ := List.mem_iff_getElem.mp (hO.mem_iff.mpr (mem_rangeI.mpr (⟨by omega, by omega⟩ : 0 ≤ (i : Int) ∧ (i : Int) < (n : Int))))
    have ht' : t < n := by rw [hOl] at ht; exact ht
    have e3 : ringAt n O t = (i : Int) := by
      unfold ringAt
      rw [Nat.mod_eq_of_lt ht', List.getD_eq_getElem?_getD, List.getElem?_eq_getElem ht, e2]
      rfl
    have := h.done t ht'
    rw [e3, show ((i : Int)).toNat = i by omega, List.getElem?_eq_getElem (by rw [h.len]; exact hi), e] at this
    exact ⟨t, Option.some.inj this⟩
  refine ⟨⟨h.len, fun r hr x hx => ?_, fun t => ?_⟩, fun r hr => ?_, fun i i0 i1 => ?_⟩
  · obtain ⟨t, rfl⟩ := all r hr
    rw [List.mem_singleton.mp hx]
    exact mem_rangeI.mp (hO.mem_iff.mp (hat _))
  · have := h.done (t % n) (Nat.mod_lt _ hn)
    rw [hmod, hmod1] at this
    exact ⟨_, this, List.mem_singleton.mpr rfl⟩
  · obtain ⟨t, rfl⟩ := all r hr
    rfl
  · rw [h.wIn i, (rot_perm hOl hn).count_eq, hO.count_eq, count_rangeI i0 i1]
    rfl
/-- while one more way is laid at each place: the first places have it -/
structure More (n c : Nat) (O : List Int) (x : Nat) (T : List Int) (R : List (List Int)) : Prop where
  ev : EvS n O R
  lens : ∀ (i : Nat) (r : List Int), R[i]? = some r → r.length = if i < x then c + 1 else c
  wIn : ∀ i : Int, 0 ≤ i → i < (n : Int) → waysIn R i = (c : Int) + ((T.count i : Nat) : Int)
theorem More.turn {n c x : Nat} {O T : List Int} {R : List (List Int)} (h : More n c O x T R) (hx : x < n) {g : Int} (hg : 0 ≤ g ∧ g < (n : Int)) {r r' : List Int} (hr : R[x]? = some r) (hr' : ∃ j, r' = r.take j ++ [g] ++ r.drop j) : More n c O (x + 1) (T ++ [g]) (R.set x r') := by
  obtain ⟨j, rfl⟩ := hr'
  have hxl : x < R.length := by rw [h.ev.len]; exact hx
  have hmem : ∀ y, y ∈ r.take j ++ [g] ++ r.drop j ↔ y ∈ r ∨ y = g := fun y => by
    constructor
    · intro hy
      rcases List.mem_append.mp hy with q | q
      · rcases List.mem_append.mp q with q | q
        · exact .inl (List.mem_of_mem_take q)
        · exact .inr (List.mem_singleton.mp q)
      · exact .inl (List.mem_of_mem_drop q)
    · rintro (q | q)
      · rw [← List.take_append_drop j r] at q
        rcases List.mem_append.mp q with q | q
        · exact List.mem_append_left _ (List.mem_append_left _ q)
        · exact List.mem_append_right _ q
      · exact List.mem_append_left _ (List.mem_append_right _ (List.mem_singleton.mpr q))
  refine ⟨⟨by rw [List.length_set]; exact h.ev.len, fun s hs y hy => ?_, fun t => ?_⟩, fun i s hs => ?_, fun i i0 i1 => ?_⟩
  · rcases List.mem_or_eq_of_mem_set hs with q | q
    · exact h.ev.rng s q y hy
    · subst q
      rcases (hmem y).mp hy with q | q
      · exact h.ev.rng r (List.mem_of_getElem? hr) y q
      · rw [q]; exact hg
  · obtain ⟨s, h1, h2⟩ := h.ev.ring t
    by_cases e : (ringAt n O t).toNat = x
    · rw [e] at h1 ⊢
      rw [hr] at h1; cases h1
      exact ⟨_, List.getElem?_set_self hxl, (hmem _).mpr (.inl h2)⟩
    · exact ⟨s, by rw [List.getElem?_set_ne (fun q => e q.symm)]; exact h1, h2⟩
  · by_cases e : i = x
    · subst e
      rw [List.getElem?_set_self hxl] at hs
      cases hs
      have := h.lens i r hr
      rw [if_neg (Nat.lt_irrefl _)] at this
      rw [if_pos (Nat.lt_succ_self _)]
      simp only [List.length_append, List.length_take, List.length_drop, List.length_singleton]
      omega
    · rw [List.getElem?_set_ne (fun q => e q.symm)] at hs
      rw [h.lens i s hs]
      by_cases q : i < x
      · rw [if_pos q, if_pos (by omega)]
      · rw [if_neg q, if_neg (by omega)]
  · rw [waysIn_set hr (g := g) (count_ins r j g) i, h.wIn i i0 i1, List.count_append, List.count_singleton]
    by_cases e : g = i
    · simp [e]; omega
    · simp [e]
end Rw

namespace Rw
open PySem PySem.Spec PyProof.Rows L2
local macro_rules | `(tactic| walk_at "go1") => `(tactic| first
  | (with_reducible refine w_seq ?_)
  | (with_reducible refine w_asg ?_)
  | (with_reducible refine w_name ?_)
  | (with_reducible refine w_drop ?_)
  | (with_reducible refine w_ret ?_)
  | (with_reducible refine w_next ?_)
  | (with_reducible refine w_op ?_)
  | (with_reducible refine w_un ?_)
  | (with_reducible refine w_c ?_)
  | (with_reducible refine w_var (by with_unfolding_all rfl) ?_)
  | (with_reducible refine w_rI0 ?_)
  | (with_reducible refine w_rU ?_)
  | ((with_reducible refine w_mod ?_ ?_); (show (0 : Int) < _); omega)
  | ((with_reducible refine w_div ?_ ?_); exact And.intro (by omega) (by omega))
  | ((with_reducible refine w_mul ?_ ?_); (first | exact Or.inl (And.intro (by omega) (by omega)) | exact Or.inr (And.intro (by omega) (by omega))))
  | (with_reducible refine w_ifS ?_)
  | (with_reducible refine w_if ?_)
  | (with_reducible refine w_test ?_)
  | (with_reducible refine w_B ?_)
  | (with_reducible refine w_bl ?_)
  | (with_reducible refine w_not ?_)
  | (with_reducible refine w_and ?_)
  | (with_reducible refine w_or ?_)
  | (with_reducible refine w_cons ?_)
  | (with_reducible refine w_nil ?_)
  | (with_reducible refine w_call ?_)
  | (with_reducible refine w_cb ?_)
  | (with_reducible refine w_bm0 ?_)
  | (with_reducible refine w_bm ?_)
  | (with_reducible refine w_tlst ?_)
  | (with_reducible refine w_ttup ?_)
  | (with_reducible refine w_sub ?_)
  | (with_reducible refine w_for ?_)
  | (with_reducible refine w_rng1 ?_)
  | ((with_reducible refine w_rngE ?_ ?_ ?_); omega; omega)
  | (with_reducible refine w_iL ?_)
  | (with_reducible refine w_iT ?_)
  | (with_reducible refine w_iE ?_)
  | (with_reducible refine w_iZ ?_)
  | (with_reducible refine w_lc ?_)
  | (with_reducible refine w_yes ?_)
  | (with_reducible refine w_gcons ?_)
  | (with_reducible refine w_gnil ?_)
  | (with_reducible refine w_max2 ?_)
  | (with_reducible refine w_sl ?_)
  | (with_reducible refine w_part ?_)
  | (with_reducible refine w_partI ?_)
  | (with_reducible refine w_nopart ?_)
  | (with_reducible refine w_isT ?_)
  | (with_reducible refine w_notT ?_)
  | (with_reducible refine w_isB ?_)
  | (with_reducible refine w_notB ?_)
  | (with_reducible refine w_isN ?_)
  | (with_reducible refine w_notN ?_)
  | (with_reducible refine w_fld ?_)
  | (with_reducible refine w_ftm ?_)
  | (with_reducible refine w_lrg ?_)
  | (with_reducible refine w_rg1 ?_)
  | (with_reducible refine w_rg1E ?_)
  | (with_reducible refine w_tru ?_)
  | (with_reducible refine w_truB ?_)
  | (with_reducible refine w_truI ?_)
  | (with_reducible refine w_notT' ?_)
  | (with_reducible refine w_andT ?_)
  | (with_reducible refine w_orT ?_)
  | (with_reducible refine w_andV ?_)
  | (with_reducible refine w_orV ?_)
  | (with_reducible refine w_andE ?_)
  | (with_reducible refine w_orE ?_)
  | (with_reducible refine w_notV ?_)
  | (with_reducible refine w_notE ?_)
  | (with_reducible refine w_chain ?_)
  | (with_reducible refine w_chainI ?_)
  | (with_reducible refine w_meth ?_)
  | (with_reducible refine w_make ?_)
  | (with_reducible refine w_sfld ?_))
local macro_rules | `(tactic| walk_at "go") => `(tactic| repeat walk_at "go1")

def spEven : Sp := fun vs H Q _ => ∃ (B : Hp) (M : List (Addr × HO)) (c k : Int), vs = [.int c, .int k] ∧ 0 ≤ k ∧ k ≤ 10000 ∧ Hs B M H ∧
  ∀ (rows : List (List Int)) (p : Addr) (B' H' : Hp), Valid rows → EvenW rows → Same B B' → Hs B' M H' → LL B' p rows → Q (.ref p) H'
-- _law_even: 0 _law_cell, 1 _law_k, 2 _law_number, 3 _law_many, 4 _law_order, 5 _law_left, 6 _law_j, 7 _law_place, 8 _law_rows_here, 9 _law_turn, 10 _law_goals, 11 _law_goal, 12 _law_at
abbrev s_law_even : Stmt := top 21
theorem sc_law_even : FnScope ["_law_cell", "_law_k", "_law_number", "_law_many", "_law_order", "_law_left", "_law_j", "_law_place", "_law_rows_here", "_law_turn", "_law_goals", "_law_goal", "_law_at"] ["_law_cell", "_law_k"] (defScope s_law_even) := ⟨rfl, rfl, rfl, by decide +kernel, rfl, by decide +kernel, by decide +kernel⟩
theorem map_erase {α β : Type} (f : α → β) : ∀ (xs : List α) (i : Nat), (xs.eraseIdx i).map f = (xs.map f).eraseIdx i
  | [], i => by simp
  | x :: xs, 0 => rfl
  | x :: xs, i + 1 => by
    rw [List.eraseIdx_cons_succ, List.map_cons, List.map_cons, List.eraseIdx_cons_succ, map_erase f xs i]
section
variable {P : Program} {w : World} {K : PySem.W.Frag} {mg : Str → Option Value} {base : Heap}
theorem ok_even (T : NamesL mg) (G : Glo K mg "_law_even" s_law_even) (C_law_mixed : Cal P w K mg base "_law_mixed" 1 ["_law_cell", "_law_k"] spMixed) : Cal P w K mg base "_law_even" 2 ["_law_cell", "_law_k"] spEven := by
  refine G.cal (k := 1) sc_law_even (fun _ _ _ _ _ _ us hl => match us, hl with | [_, _], _ => rfl) (fun vs H Q E h => ?_) (fun f cdv A outer s H vs Q E hr h => ?_)
  · obtain ⟨B, M, c, k, rfl, _⟩ := h; rfl
  obtain ⟨B, M, c, k, rfl, k0, k1, S, hQ⟩ := h
  refine ⟨_, (pss_cons (ps_set (i := 2) sc_law_even.nd rfl (Or.inl rfl) (pe_cal C_law_mixed hr rfl (pa_cons (pv 0) (pa_cons (pv 1) pa_nil)))) (pss_cons (ps_set (i := 3) sc_law_even.nd rfl (Or.inl rfl) (pe_op op_add pe_int (pe_op op_mod (pv 2) pe_int))) (pss_cons (ps_set (i := 4) sc_law_even.nd rfl (Or.inl rfl) (pe_lst pa_nil)) (pss_cons (ps_set (i := 5) sc_law_even.nd rfl (Or.inl rfl) (pe_listRg rfl rfl T.n_list (prg_1 rfl T.n_range (pv 3)))) (pss_cons (ps_for PassesOwn.never rfl (pi_range1 rfl T.n_range (pa_cons (pv 3) pa_nil)) (pg_name (i := 6) sc_law_even.nd rfl (Or.inl rfl)) (pss_one (ps_expr (pe_bmK K PySem.F.plainAttrs_list PySem.F.slot_list_append PySem.F.type_list_append mt_append (pv 4) (pa_cons (pe_bmK K PySem.F.plainAttrs_list PySem.F.slot_list_pop PySem.F.type_list_pop mt_popAt (pv 5) (pa_cons (pe_op op_mod (pe_cal C_law_mixed hr rfl (pa_cons (pv 0) (pa_cons (pe_op op_add (pe_op op_add (pv 1) pe_int) (pv 6)) pa_nil))) (pe_callB (k_len K) rfl T.n_len boot_len (pa_cons (pv 5) pa_nil))) pa_nil)) pa_nil))))) (pss_cons (ps_setLc (i := 8) (own := [("_law_place", 7)]) rfl sc_law_even.nd rfl rfl (sw_true rfl rfl rfl (by decide +kernel)) (pi_range1 rfl T.n_range (pa_cons (pv 3) pa_nil)) (blkOk_by (own := [("_law_place", 7)]) (N := ["_law_cell", "_law_k", "_law_number", "_law_many", "_law_order", "_law_left", "_law_j", "_law_place", "_law_rows_here", "_law_turn", "_law_goals", "_law_goal", "_law_at"]) (sc := defScope s_law_even) (by decide +kernel)) (fun _ _ _ _ _ => (pg_name (i := 7) sc_law_even.nd rfl (Or.inl rfl))) (fun _ _ _ _ _ => pts_nil) (fun _ _ _ _ _ => (pe_lst pa_nil))) (pss_cons (ps_for PassesOwn.never rfl (pi_enumK K rfl T.n_enumerate (pa_cons (pv 4) pa_nil)) (pg_tupK (n := 2) K rfl (pgs_cons (pg_name (i := 6) sc_law_even.nd rfl (Or.inl rfl)) (pgs_cons (pg_name (i := 7) sc_law_even.nd rfl (Or.inl rfl)) pgs_nil))) (pss_one (ps_expr (pe_bmK K PySem.F.plainAttrs_list PySem.F.slot_list_append PySem.F.type_list_append mt_append (pe_ix (k_ixL K) (pv 8) (pv 7) (fun _ _ => rfl)) (pa_cons (pe_ix (k_ixL K) (pv 4) (pe_op op_mod (pe_op op_add (pv 6) pe_int) (pv 3)) (fun _ _ => rfl)) pa_nil))))) (pss_cons (ps_for PassesOwn.never rfl (pi_range1 rfl T.n_range (pa_cons (pe_op op_mod (pe_op op_fdiv (pv 2) pe_int) pe_int) pa_nil)) (pg_name (i := 9) sc_law_even.nd rfl (Or.inl rfl)) (pss_cons (ps_set (i := 10) sc_law_even.nd rfl (Or.inl rfl) (pe_listRg rfl rfl T.n_list (prg_1 rfl T.n_range (pv 3)))) (pss_one (ps_for PassesOwn.never rfl (pi_range1 rfl T.n_range (pa_cons (pv 3) pa_nil)) (pg_name (i := 7) sc_law_even.nd rfl (Or.inl rfl)) (pss_cons (ps_set (i := 11) sc_law_even.nd rfl (Or.inl rfl) (pe_bmK K PySem.F.plainAttrs_list PySem.F.slot_list_pop PySem.F.type_list_pop mt_popAt (pv 10) (pa_cons (pe_op op_mod (pe_cal C_law_mixed hr rfl (pa_cons (pv 0) (pa_cons (pe_op op_add (pe_op op_add (pe_op op_add (pv 1) pe_int) (pe_op op_mul pe_int (pv 9))) (pv 7)) pa_nil))) (pe_callB (k_len K) rfl T.n_len boot_len (pa_cons (pv 10) pa_nil))) pa_nil))) (pss_cons (ps_set (i := 12) sc_law_even.nd rfl (Or.inl rfl) (pe_op op_mod (pe_cal C_law_mixed hr rfl (pa_cons (pv 0) (pa_cons (pe_op op_add (pe_op op_add (pe_op op_add (pv 1) pe_int) (pe_op op_mul pe_int (pv 9))) (pv 7)) pa_nil))) (pe_op op_add (pe_callB (k_len K) rfl T.n_len boot_len (pa_cons (pe_ix (k_ixL K) (pv 8) (pv 7) (fun _ _ => rfl)) pa_nil)) pe_int))) (pss_one (ps_expr (pe_bmK K PySem.F.plainAttrs_list PySem.F.slot_list_insert PySem.F.type_list_insert mt_insX (pe_ix (k_ixL K) (pv 8) (pv 7) (fun _ _ => rfl)) (pa_cons (pv 12) (pa_cons (pv 11) pa_nil))))))))))) (pss_one (ps_ret (pv 8))))))))))), ?_⟩
  walk_at "go"
  refine ⟨_, _, rfl, k0, by omega, ?_⟩
  walk_at "go"
  have n0 := mixed_nn c k
  generalize mixed c k = num at *
  have hm : 1 ≤ 1 + num % 8 ∧ 1 + num % 8 ≤ 8 := by omega
  generalize 1 + num % 8 = many at *
  obtain ⟨n, en⟩ : ∃ n : Nat, many = (n : Int) := ⟨many.toNat, by omega⟩
  subst en
  have hn0 : 0 < n := by omega
  have hn8 : n ≤ 8 := by omega
  refine w_lst S (len_ok (by simp)) fun o H1 S1 => ?_
  walk_at "go"
  refine w_lrgE S1 (by omega) (by omega) fun lf H2 S2 => ?_
  rw [show ((n : Nat) : Int).toNat = n by omega] at S2
  walk_at "go"
  -- the order
  refine for_rng (fun j σ H => ∃ (O Lf : List Int) (v6 v7 v8 v9 v10 v11 v12 : Option V), σ = [some (.int c), some (.int k), some (.int num), some (.int (n : Int)), some (.ref o), some (.ref lf), v6, v7, v8, v9, v10, v11, v12] ∧ Hs B ((lf, .lst (Lf.map V.int)) :: (o, .lst (O.map V.int)) :: M) H ∧ (O ++ Lf).Perm (rangeI n) ∧ O.length = j)
    ⟨[], rangeI n, none, none, none, none, none, none, none, rfl, S2, List.Perm.refl _, rfl⟩ ?_ ?_
  · rintro j σ H3 hj ⟨O, Lf, v6, v7, v8, v9, v10, v11, v12, rfl, S3, hP, hOl⟩
    have hLl : j + Lf.length = n := by
      have := hP.length_eq
      rw [List.length_append, rangeI_len] at this
      omega
    walk_at "go"
    refine ⟨tyL (sqL_of (S3.get 1)), ?_⟩
    walk_at "go"
    refine ⟨tyL (sqL_of (S3.get 0)), ?_⟩
    walk_at "go"
    refine ⟨_, _, rfl, by omega, by omega, ?_⟩
    have c0 := mixed_nn c (k + 1 + (j : Int))
    generalize mixed c (k + 1 + (j : Int)) = mm at *
    walk_at "go"
    refine w_len (sqL_of (S3.get 0)) ?_
    rw [List.length_map]
    walk_at "go"
    have hi0 := Int.emod_nonneg mm (show ((Lf.length : Nat) : Int) ≠ 0 by omega)
    have hi1 := Int.emod_lt_of_pos mm (show 0 < ((Lf.length : Nat) : Int) by omega)
    generalize mm % ((Lf.length : Nat) : Int) = ix at *
    obtain ⟨x, hx⟩ : ∃ x, Lf[ix.toNat]? = some x := ⟨_, List.getElem?_eq_getElem (by omega)⟩
    refine w_popAt S3 0 rfl (n := ix.toNat) (y := .int x) (by omega) (by omega) (seqIndex_of hi0 (by simpa using hi1)) (by rw [List.getElem?_map, hx]; rfl) fun H4 S4 => ?_
    walk_at "go"
    refine w_append S4 1 rfl (len_lt (by simp; omega)) fun H5 S5 => ?_
    refine ⟨O ++ [x], Lf.eraseIdx ix.toNat, some (.int (j : Int)), v7, v8, v9, v10, v11, v12, rfl, ?_, ?_, by simp [hOl]⟩
    · rw [List.map_append, map_erase]
      exact S5
    · refine List.Perm.trans ?_ hP
      rw [List.append_assoc]
      exact (perm_erase hx).append_left O
  · rintro σ H3 ⟨O, Lf, v6, v7, v8, v9, v10, v11, v12, rfl, S3, hP, hOl⟩
    rw [show ((n : Nat) : Int).toNat = n by omega] at hOl
    have hLf : Lf = [] := by
      have := hP.length_eq
      rw [List.length_append, rangeI_len] at this
      exact List.length_eq_zero_iff.mp (by omega)
    subst hLf
    rw [List.append_nil] at hP
    obtain ⟨B1, e1, ho, S4⟩ := (S3.drop 0).shut 0
    clear S3 S1 S2
    walk_at "go"
    refine lc_R S4 (fun i B' acc => ∃ as : List Addr, acc = as.map V.ref ∧ LR B' as (List.replicate i []) ∧ as.Nodup ∧ ∀ a ∈ as, B1 a = none) ⟨[], rfl, .nil, by simp, by simp⟩ ?_ ?_
    · rintro i D B' acc H' hi hli e S' ⟨as, rfl, hR, hnd, hf⟩
      walk_at "go"
      refine ⟨rfl, ?_⟩
      walk_at "go"
      refine iteT ?_
      walk_at "go"
      refine w_lst S' (len_ok (by simp)) fun q H5 S5 => ?_
      have hqn := S5.out 0
      obtain ⟨B2, e2, hq, S6⟩ := S5.shut 0
      refine lcp S6 (e.trans e2) hli (by omega) ⟨as ++ [q], by simp, ?_, ?_, ?_⟩
      · rw [List.replicate_succ']
        exact (hR.mono e2).snoc hq
      · refine List.nodup_append.mpr ⟨hnd, by simp, fun a ha b hb eab => ?_⟩
        rw [List.mem_singleton.mp hb] at eab
        obtain ⟨t, ht⟩ := List.mem_iff_getElem?.mp ha
        have hti := (List.getElem?_eq_some_iff.mp ht).1
        have hl := hR.length
        rw [List.length_replicate] at hl
        obtain ⟨a', ha', hla⟩ := hR.get (i := t) (r := []) (by rw [List.getElem?_replicate, if_pos (by omega)])
        rw [ht] at ha'; cases ha'
        have hla : B' a = some (.lst (([] : List Int).map V.int)) := hla
        rw [eab, hqn] at hla
        cases hla
      · intro a ha
        rcases List.mem_append.mp ha with q' | q'
        · exact hf a q'
        · rw [List.mem_singleton.mp q']
          exact e.free hqn
    · rintro p B2 acc H5 e2 S5 hli ⟨as, rfl, hR, hnd, hf⟩
      rw [show ((n : Nat) : Int).toNat = n by omega] at hR
      have hal : as.length = n := by have := hR.length; simpa using this
      walk_at "go"
      refine w_iEE (sqL_of (S5.ex _ _ (e2 _ _ ho))) ?_
      -- the ring
      refine for_enu (xs := O.map V.int) (fun j σ H => ∃ (B' : Hp) (R : List (List Int)) (v6 v7 v9 v10 v11 v12 : Option V), σ = [some (.int c), some (.int k), some (.int num), some (.int (n : Int)), some (.ref o), some (.ref lf), v6, v7, some (.ref p), v9, v10, v11, v12] ∧ Same B1 B' ∧ Hs B' ((p, .lst (as.map V.ref)) :: M) H ∧ LR B' as R ∧ Lay n O j R)
        ⟨B2, List.replicate n [], v6, v7, v9, v10, v11, v12, rfl, e2, S5, hR, Lay.zero n O⟩ (fun i σ H _ ⟨B', _, _, _, _, _, _, _, _, e, S6, _⟩ => sqL_of (S6.ex _ _ (e _ _ ho))) ?_ ?_
      · rintro j x σ H6 T0 hx ⟨B', R, v6, v7, v9, v10, v11, v12, rfl, e, S6, hR, hL⟩ hT0
        have S7 := S6.new hT0 (.tup [.int (j : Int), x])
        generalize upd H6 T0 (.tup [.int (j : Int), x]) = H7 at S7
        have hjn : j < n := by
          have := (List.getElem?_eq_some_iff.mp hx).1
          rw [List.length_map] at this
          omega
        have hat : O[j]? = some (ringAt n O j) := by
          unfold ringAt
          rw [Nat.mod_eq_of_lt hjn, List.getD_eq_getElem?_getD, List.getElem?_eq_getElem (by omega)]
          rfl
        have hxe : x = V.int (ringAt n O j) := by
          rw [List.getElem?_map, hat] at hx
          exact (Option.some.inj hx).symm
        subst hxe
        have hr := mem_rangeI.mp (hP.mem_iff.mp (List.mem_of_getElem? hat))
        obtain ⟨h0, hL2⟩ := hL.turn hP hjn
        obtain ⟨a, ha, hla⟩ := hR.get h0
        have hz : (((j : Int) + 1) % (n : Int)).toNat = (j + 1) % n := by
          rw [show ((j : Int) + 1) = ((j + 1 : Nat) : Int) by omega, ← Int.natCast_emod]
          rfl
        have hz0 := Int.emod_nonneg ((j : Int) + 1) (show ((n : Nat) : Int) ≠ 0 by omega)
        have hz1 : (j + 1) % n < n := Nat.mod_lt _ hn0
        refine w_gtup (sqT_of (S7.get 0)) rfl ?_
        walk_at "go"
        replace S7 := S7.drop 0
        refine w_ixL (v := .ref a) (sqL_of (S7.get 0)) (at_of (j := (ringAt n O j).toNat) (by omega) (by rw [List.getElem?_map, ha]; rfl)) ?_
        refine ⟨tyL (sqL_of (S7.ex _ _ hla)), ?_⟩
        walk_at "go"
        refine w_ixL (v := .int (ringAt n O (j + 1))) (sqL_of (S7.ex _ _ (e _ _ ho))) (at_of (j := (j + 1) % n) (by omega) ?_) ?_
        · rw [List.getElem?_map, List.getElem?_eq_getElem (by omega)]
          unfold ringAt
          rw [List.getD_eq_getElem?_getD, List.getElem?_eq_getElem (by omega)]
          rfl
        walk_at "go"
        refine w_appendB S7 hla (len_lt (by simp)) fun H8 S8 => ?_
        exact ⟨_, _, _, _, v9, v10, v11, v12, rfl, Same.updO e (hf a (List.mem_of_getElem? ha)), S8, hR.upd hnd ha (r := [ringAt n O (j + 1)]), hL2⟩
      · rintro σ H6 ⟨B3, R, v6, v7, v9, v10, v11, v12, rfl, e3, S6, hR, hL⟩
        rw [List.length_map, hOl] at hL
        obtain ⟨hev, hl1, hw1⟩ := hL.done_ hP hn0
        walk_at "go"
        -- more ways
        refine for_rng (fun t σ H => ∃ (B' : Hp) (R : List (List Int)) (v6 v7 v9 v10 v11 v12 : Option V), σ = [some (.int c), some (.int k), some (.int num), some (.int (n : Int)), some (.ref o), some (.ref lf), v6, v7, some (.ref p), v9, v10, v11, v12] ∧ Same B1 B' ∧ Hs B' ((p, .lst (as.map V.ref)) :: M) H ∧ LR B' as R ∧ EvS n O R ∧ (∀ r ∈ R, r.length = t + 1) ∧ ∀ i : Int, 0 ≤ i → i < (n : Int) → waysIn R i = ((t + 1 : Nat) : Int))
          ⟨B3, R, v6, v7, v9, v10, v11, v12, rfl, e3, S6, hR, hev, hl1, hw1⟩ ?_ ?_
        · rintro t σ H7 ht ⟨B4, R, v6, v7, v9, v10, v11, v12, rfl, e4, S7, hR, hev, hl, hw⟩
          walk_at "go"
          refine w_lrgE S7 (by omega) (by omega) fun gl H8 S8 => ?_
          rw [show ((n : Nat) : Int).toNat = n by omega] at S8
          walk_at "go"
          refine for_rng (fun x σ H => ∃ (B' : Hp) (R : List (List Int)) (T0 Gl : List Int) (v6 v7 v11 v12 : Option V), σ = [some (.int c), some (.int k), some (.int num), some (.int (n : Int)), some (.ref o), some (.ref lf), v6, v7, some (.ref p), some (.int (t : Int)), some (.ref gl), v11, v12] ∧ Same B1 B' ∧ Hs B' ((gl, .lst (Gl.map V.int)) :: (p, .lst (as.map V.ref)) :: M) H ∧ LR B' as R ∧ (T0 ++ Gl).Perm (rangeI n) ∧ T0.length = x ∧ More n (t + 1) O x T0 R)
            ⟨B4, R, [], rangeI n, v6, v7, v11, v12, rfl, e4, S8, hR, List.Perm.refl _, rfl, hev, fun i r hr => by rw [hl r (List.mem_of_getElem? hr), if_neg (Nat.not_lt_zero _)], fun i i0 i1 => by rw [hw i i0 i1]; simp⟩ ?_ ?_
          · rintro x σ H9 hx ⟨B5, R, T0, Gl, v6, v7, v11, v12, rfl, e5, S9, hR, hG, hT0, hM⟩
            have hxn : x < n := by omega
            have hGl : x + Gl.length = n := by
              have := hG.length_eq
              rw [List.length_append, rangeI_len] at this
              omega
            obtain ⟨r, hr1⟩ : ∃ r, R[x]? = some r := ⟨_, List.getElem?_eq_getElem (by rw [hM.ev.len]; exact hxn)⟩
            have hrl := hM.lens x r hr1
            rw [if_neg (Nat.lt_irrefl _)] at hrl
            obtain ⟨a, ha, hla⟩ := hR.get hr1
            walk_at "go"
            refine ⟨tyL (sqL_of (S9.get 0)), ?_⟩
            walk_at "go"
            refine ⟨_, _, rfl, by omega, by omega, ?_⟩
            have c0 := mixed_nn c (k + 20 + 10 * (t : Int) + (x : Int))
            generalize mixed c (k + 20 + 10 * (t : Int) + (x : Int)) = mm at *
            walk_at "go"
            refine w_len (sqL_of (S9.get 0)) ?_
            rw [List.length_map]
            walk_at "go"
            have hi0 := Int.emod_nonneg mm (show ((Gl.length : Nat) : Int) ≠ 0 by omega)
            have hi1 := Int.emod_lt_of_pos mm (show 0 < ((Gl.length : Nat) : Int) by omega)
            generalize mm % ((Gl.length : Nat) : Int) = ix at *
            obtain ⟨g, hg⟩ : ∃ g, Gl[ix.toNat]? = some g := ⟨_, List.getElem?_eq_getElem (by omega)⟩
            have hgr := mem_rangeI.mp (hG.mem_iff.mp (List.mem_append_right T0 (List.mem_of_getElem? hg)))
            refine w_popAt S9 0 rfl (n := ix.toNat) (y := .int g) (by omega) (by omega) (seqIndex_of hi0 (by simpa using hi1)) (by rw [List.getElem?_map, hg]; rfl) fun H10 S10 => ?_
            walk_at "go"
            refine ⟨_, _, rfl, by omega, by omega, ?_⟩
            have c1 := mixed_nn c (k + 50 + 10 * (t : Int) + (x : Int))
            generalize mixed c (k + 50 + 10 * (t : Int) + (x : Int)) = m2 at *
            walk_at "go"
            refine w_ixL (v := .ref a) (sqL_of (S10.get 1)) (atI_nat (by rw [List.getElem?_map, ha]; rfl)) ?_
            walk_at "go"
            refine w_len (sqL_of (S10.ex _ _ hla)) ?_
            rw [List.length_map]
            walk_at "go"
            have ha0 := Int.emod_nonneg m2 (show ((r.length : Nat) : Int) + 1 ≠ 0 by omega)
            have ha1 := Int.emod_lt_of_pos m2 (show 0 < ((r.length : Nat) : Int) + 1 by omega)
            generalize m2 % (((r.length : Nat) : Int) + 1) = pl at *
            refine w_ixL (v := .ref a) (sqL_of (S10.get 1)) (atI_nat (by rw [List.getElem?_map, ha]; rfl)) ?_
            refine ⟨tyL (sqL_of (S10.ex _ _ hla)), ?_⟩
            walk_at "go"
            refine w_insertB S10 hla (len_lt (by simp; omega)) ha0 (by omega) fun H11 S11 => ?_
            have er : (r.map V.int).take pl.toNat ++ [V.int g] ++ (r.map V.int).drop pl.toNat = (r.take pl.toNat ++ [g] ++ r.drop pl.toNat).map V.int := by simp
            rw [er] at S11
            refine ⟨_, _, T0 ++ [g], Gl.eraseIdx ix.toNat, v6, some (.int (x : Int)), _, _, rfl, Same.updO e5 (hf a (List.mem_of_getElem? ha)), ?_, hR.upd hnd ha, ?_, by simp [hT0], hM.turn hxn hgr hr1 ⟨pl.toNat, rfl⟩⟩
            · rw [map_erase]
              exact S11
            · refine List.Perm.trans ?_ hG
              rw [List.append_assoc]
              exact (perm_erase hg).append_left T0
          · rintro σ H9 ⟨B5, R, T0, Gl, v6, v7, v11, v12, rfl, e5, S9, hR, hG, hT0, hM⟩
            rw [show ((n : Nat) : Int).toNat = n by omega] at hT0 hM
            have hGl : Gl = [] := by
              have := hG.length_eq
              rw [List.length_append, rangeI_len] at this
              exact List.length_eq_zero_iff.mp (by omega)
            subst hGl
            rw [List.append_nil] at hG
            refine ⟨B5, R, v6, v7, _, _, v11, v12, rfl, e5, S9.drop 0, hR, hM.ev, fun r hr => ?_, fun i i0 i1 => ?_⟩
            · obtain ⟨i, hi, er⟩ := List.mem_iff_getElem.mp hr
              have := hM.lens i r (by rw [List.getElem?_eq_getElem hi, er])
              rw [hM.ev.len] at hi
              rw [if_pos hi] at this
              exact this
            · rw [hM.wIn i i0 i1, hG.count_eq, count_rangeI i0 i1]
              omega
        · rintro σ H7 ⟨B4, R, v6, v7, v9, v10, v11, v12, rfl, e4, S7, hR, hev, hl, hw⟩
          have hc : 1 ≤ (num / 8 % 3).toNat + 1 ∧ (num / 8 % 3).toNat + 1 ≤ 3 := by omega
          generalize (num / 8 % 3).toNat + 1 = cc at *
          walk_at "go"
          obtain ⟨B5, e5, hp, S8⟩ := S7.shut 0
          refine hQ R p B5 _ ⟨by rw [hev.len]; omega, by rw [hev.len]; omega, fun r hr => ⟨by rw [hl r hr]; omega, fun x hx => by rw [hev.len]; exact hev.rng r hr x hx⟩⟩ (hev.even hP hn0 hc.1 hl hw) ((e1.trans e4).trans e5) S8 ⟨as, hp, hR.mono e5⟩
end
end Rw

namespace Rw
open PySem PySem.Spec PyProof.Rows L2
local macro_rules | `(tactic| walk_at "go1") => `(tactic| first
  | (with_reducible refine w_seq ?_)
  | (with_reducible refine w_asg ?_)
  | (with_reducible refine w_name ?_)
  | (with_reducible refine w_drop ?_)
  | (with_reducible refine w_ret ?_)
  | (with_reducible refine w_next ?_)
  | (with_reducible refine w_op ?_)
  | (with_reducible refine w_un ?_)
  | (with_reducible refine w_c ?_)
  | (with_reducible refine w_var (by with_unfolding_all rfl) ?_)
  | (with_reducible refine w_rI0 ?_)
  | (with_reducible refine w_rU ?_)
  | ((with_reducible refine w_mod ?_ ?_); (show (0 : Int) < _); omega)
  | ((with_reducible refine w_div ?_ ?_); exact And.intro (by omega) (by omega))
  | ((with_reducible refine w_mul ?_ ?_); (first | exact Or.inl (And.intro (by omega) (by omega)) | exact Or.inr (And.intro (by omega) (by omega))))
  | (with_reducible refine w_ifS ?_)
  | (with_reducible refine w_if ?_)
  | (with_reducible refine w_test ?_)
  | (with_reducible refine w_B ?_)
  | (with_reducible refine w_bl ?_)
  | (with_reducible refine w_not ?_)
  | (with_reducible refine w_and ?_)
  | (with_reducible refine w_or ?_)
  | (with_reducible refine w_cons ?_)
  | (with_reducible refine w_nil ?_)
  | (with_reducible refine w_call ?_)
  | (with_reducible refine w_cb ?_)
  | (with_reducible refine w_bm0 ?_)
  | (with_reducible refine w_bm ?_)
  | (with_reducible refine w_tlst ?_)
  | (with_reducible refine w_ttup ?_)
  | (with_reducible refine w_sub ?_)
  | (with_reducible refine w_for ?_)
  | (with_reducible refine w_rng1 ?_)
  | ((with_reducible refine w_rngE ?_ ?_ ?_); omega; omega)
  | (with_reducible refine w_iL ?_)
  | (with_reducible refine w_iT ?_)
  | (with_reducible refine w_iE ?_)
  | (with_reducible refine w_iZ ?_)
  | (with_reducible refine w_lc ?_)
  | (with_reducible refine w_yes ?_)
  | (with_reducible refine w_gcons ?_)
  | (with_reducible refine w_gnil ?_)
  | (with_reducible refine w_max2 ?_)
  | (with_reducible refine w_sl ?_)
  | (with_reducible refine w_part ?_)
  | (with_reducible refine w_partI ?_)
  | (with_reducible refine w_nopart ?_)
  | (with_reducible refine w_isT ?_)
  | (with_reducible refine w_notT ?_)
  | (with_reducible refine w_isB ?_)
  | (with_reducible refine w_notB ?_)
  | (with_reducible refine w_isN ?_)
  | (with_reducible refine w_notN ?_)
  | (with_reducible refine w_fld ?_)
  | (with_reducible refine w_ftm ?_)
  | (with_reducible refine w_lrg ?_)
  | (with_reducible refine w_rg1 ?_)
  | (with_reducible refine w_rg1E ?_)
  | (with_reducible refine w_tru ?_)
  | (with_reducible refine w_truB ?_)
  | (with_reducible refine w_truI ?_)
  | (with_reducible refine w_notT' ?_)
  | (with_reducible refine w_andT ?_)
  | (with_reducible refine w_orT ?_)
  | (with_reducible refine w_andV ?_)
  | (with_reducible refine w_orV ?_)
  | (with_reducible refine w_andE ?_)
  | (with_reducible refine w_orE ?_)
  | (with_reducible refine w_notV ?_)
  | (with_reducible refine w_notE ?_)
  | (with_reducible refine w_chain ?_)
  | (with_reducible refine w_chainI ?_)
  | (with_reducible refine w_meth ?_)
  | (with_reducible refine w_make ?_)
  | (with_reducible refine w_sfld ?_))
local macro_rules | `(tactic| walk_at "go") => `(tactic| repeat walk_at "go1")

theorem rows_valid (c k : Int) : Valid (rows c k) := by
  have n0 := mixed_nn c k
  have hm : 1 ≤ manyOf c k ∧ manyOf c k ≤ 8 ∧ ((manyOf c k : Nat) : Int) = 1 + mixed c k % 8 := by
    unfold manyOf
    omega
  have hl : (rows c k).length = manyOf c k := by
    unfold rows
    dsimp only
    split <;> simp
  have hrow : ∀ i, i < manyOf c k → (rowAt c k (1 + mixed c k % 8) i).length ≤ 3 ∧ ∀ x ∈ rowAt c k (1 + mixed c k % 8) i, 0 ≤ x ∧ x < ((manyOf c k : Nat) : Int) := by
    intro i hi
    refine ⟨?_, fun x hx => ?_⟩
    · unfold rowAt
      rw [List.length_map, List.length_range]
      have := cnt_le (mixed c (k + 1 + i) % 5)
      omega
    · unfold rowAt at hx
      obtain ⟨j, _, rfl⟩ := List.mem_map.mp hx
      unfold farAt
      rw [hm.2.2]
      split
      · exact ⟨Int.emod_nonneg _ (by omega), Int.emod_lt_of_pos _ (by omega)⟩
      · exact ⟨Int.emod_nonneg _ (by omega), Int.emod_lt_of_pos _ (by omega)⟩
  refine ⟨by omega, by omega, fun r hr => ?_⟩
  rw [hl]
  unfold rows at hr
  dsimp only at hr
  have base : ∀ r ∈ (List.range (manyOf c k)).map (rowAt c k (1 + mixed c k % 8)), r.length ≤ 3 ∧ ∀ x ∈ r, 0 ≤ x ∧ x < ((manyOf c k : Nat) : Int) := by
    intro r hr
    obtain ⟨i, hi, rfl⟩ := List.mem_map.mp hr
    exact hrow i (List.mem_range.mp hi)
  split at hr
  · rcases List.mem_or_eq_of_mem_set hr with q | q
    · exact base r q
    · subst q
      simp
  · exact base r hr
def spTold (CW : Addr) : Sp := fun vs H Q _ => ∃ (B : Hp) (M : List (Addr × HO)) (a p : Addr) (rows : List (List Int)), vs = [.ref a, .ref p] ∧ Hs B M H ∧ WebAt CW B a rows ∧ LL B p rows ∧ Valid rows ∧ ∀ H', Hs B M H' → Q (.bl true) H'
-- _law_told: 0 _law_web, 1 _law_rows_here, 2 _law_found, 3 _law_rests, 4 _law_even_here, 5 _law_place, 6 _law_row
abbrev s_law_told : Stmt := top 23
theorem sc_law_told : FnScope ["_law_web", "_law_rows_here", "_law_found", "_law_rests", "_law_even_here", "_law_place", "_law_row"] ["_law_web", "_law_rows_here"] (defScope s_law_told) := ⟨rfl, rfl, rfl, by decide +kernel, rfl, by decide +kernel, by decide +kernel⟩
section
variable {P : Program} {w : World} {K : PySem.W.Frag} {mg : Str → Option Value} {base : Heap} {CW : Addr}
theorem bool_eq_of {b c : Bool} {φ : Prop} (h1 : b = true ↔ φ) (h2 : c = true ↔ φ) : b = c := by
  cases b <;> cases c
  · rfl
  · exact absurd (h1.mpr (h2.mp rfl)) Bool.false_ne_true
  · exact absurd (h2.mpr (h1.mp rfl)) Bool.false_ne_true
  · rfl
theorem ok_told (T : NamesL mg) (T_Web : Cls K CW) (G : Glo K mg "_law_told" s_law_told) (C_Web_rows : CalM P w K mg base CW "rows" 3 ["self"] (spRowsM CW)) (C_Web_rests : CalM P w K mg base CW "rests" 3 ["self"] (spRests CW)) (C_Web_is_even : CalM P w K mg base CW "is_even" 3 ["self"] (spBool CW EvenW)) (C_Web_many : CalM P w K mg base CW "many" 3 ["self"] (spMany CW))
    (C_law_numbers : Cal P w K mg base "_law_numbers" 3 ["_law_found"] spNumbers) (C_law_is_even : Cal P w K mg base "_law_is_even" 3 ["_law_rows_here"] spIsEvenL) : Cal P w K mg base "_law_told" 4 ["_law_web", "_law_rows_here"] (spTold CW) := by
  refine G.cal (k := 3) sc_law_told (fun _ _ _ _ _ _ us hl => match us, hl with | [_, _], _ => rfl) (fun vs H Q E h => ?_) (fun f cdv A outer s H vs Q E hr h => ?_)
  · obtain ⟨B, M, a, p, rows, rfl, _⟩ := h; rfl
  obtain ⟨B, M, a, p, rows, rfl, S, hw, hp, hv, hQ⟩ := h
  obtain ⟨dx, t, ha, hTW⟩ := hw.ex
  have hle := hv.le
  have hpos := hv.pos
  obtain ⟨ps, hps, hPR⟩ := id hp
  have hpl := hPR.length
  refine ⟨_, (pss_cons (ps_set (i := 2) sc_law_told.nd rfl (Or.inl rfl) (pe_calM0 (pv 0) T_Web C_Web_rows hr)) (pss_cons (ps_if (PW.pt (pw_or (pt_not (pt_val (pe_callB (k_isi K) rfl T.n_isinstance (by decide +kernel) (pa_cons (pv 2) (pa_cons (pe_bltn (v := .ty "list") rfl T.n_list (by decide +kernel) rfl) pa_nil))))) (pw_or (pt_cmpR (k_neD K hr.units) (pv 2) (pv 1) (nomark _)) (pw_or1 (pt_not (pt_val (pe_callB (k_all K rfl) rfl T.n_all (by decide +kernel) (pa_cons (pe_lc (own := [("_law_row", 6)]) rfl sc_law_told.nd (pi_listK K (pv 2)) (blkOk_by (own := [("_law_row", 6)]) (N := ["_law_web", "_law_rows_here", "_law_found", "_law_rests", "_law_even_here", "_law_place", "_law_row"]) (sc := defScope s_law_told) (by decide +kernel)) (fun _ _ _ _ _ => (pg_name (i := 6) sc_law_told.nd rfl (Or.inl rfl))) (fun _ _ _ _ _ => pts_nil) (fun _ _ _ _ _ => (pe_callB (k_isi K) rfl T.n_isinstance (by decide +kernel) (pa_cons (pv 6) (pa_cons (pe_bltn (v := .ty "list") rfl T.n_list (by decide +kernel) rfl) pa_nil))))) pa_nil)))))))) (pss_one (ps_ret pe_bl)) pss_nil) (pss_cons (ps_expr (pe_bmK K PySem.F.plainAttrs_list PySem.F.slot_list_append PySem.F.type_list_append mt_append (pe_ix (k_ixL K) (pv 2) pe_int (fun _ _ => rfl)) (pa_cons pe_int pa_nil))) (pss_cons (ps_expr (pe_bmK K PySem.F.plainAttrs_list PySem.F.slot_list_append PySem.F.type_list_append mt_append (pv 2) (pa_cons (pe_lst pa_nil) pa_nil))) (pss_cons (ps_set (i := 3) sc_law_told.nd rfl (Or.inl rfl) (pe_calM0 (pv 0) T_Web C_Web_rests hr)) (pss_cons (ps_if (PW.pt (pw_or (pt_not (pt_val (pe_cal C_law_numbers hr rfl (pa_cons (pv 3) pa_nil)))) (pw_or1 (pt_cmpR (k_neD K hr.units) (pv 3) (pe_lc (own := [("_law_place", 5), ("_law_row", 6)]) rfl sc_law_told.nd (pi_enumK K rfl T.n_enumerate (pa_cons (pv 1) pa_nil)) (blkOk_by (own := [("_law_place", 5), ("_law_row", 6)]) (N := ["_law_web", "_law_rows_here", "_law_found", "_law_rests", "_law_even_here", "_law_place", "_law_row"]) (sc := defScope s_law_told) (by decide +kernel)) (fun _ _ _ _ _ => (pg_tupK (n := 2) K rfl (pgs_cons (pg_name (i := 5) sc_law_told.nd rfl (Or.inl rfl)) (pgs_cons (pg_name (i := 6) sc_law_told.nd rfl (Or.inl rfl)) pgs_nil)))) (fun _ _ _ _ _ => pts_one (pt_cmpR (k_eqD K hr.units) (pv 6) (pe_lst pa_nil) (nomark _))) (fun _ _ _ _ _ => (pv 5))) (nomark _))))) (pss_one (ps_ret pe_bl)) pss_nil) (pss_cons (ps_expr (pe_bmK K PySem.F.plainAttrs_list PySem.F.slot_list_append PySem.F.type_list_append mt_append (pv 3) (pa_cons pe_int pa_nil))) (pss_cons (ps_set (i := 4) sc_law_told.nd rfl (Or.inl rfl) (pe_calM0 (pv 0) T_Web C_Web_is_even hr)) (pss_one (ps_ret (pe_and (pe_callB (k_isi K) rfl T.n_isinstance (by decide +kernel) (pa_cons (pv 4) (pa_cons (pe_bltn (v := .ty "bool") rfl T.n_bool (by decide +kernel) rfl) pa_nil))) (pe_and (pe_cmpR op_eq (pv 4) (pe_cal C_law_is_even hr rfl (pa_cons (pv 1) pa_nil)) (nomark _)) (pe_one (pe_cmpR op_eq (pe_calM0 (pv 0) T_Web C_Web_many hr) (pe_callB (k_len K) rfl T.n_len boot_len (pa_cons (pv 1) pa_nil)) (nomark _))))))))))))))), ?_⟩
  walk_at "go"
  refine w_methE (S.ex _ _ ha) (look1n (by decide +kernel)) ?_
  walk_at "go"
  refine ⟨B, M, a, rows, rfl, S, hw, hv, fun q as B1 H1 e1 S1 hR hf => ?_⟩
  have hal := hR.length
  have hq0 := S1.out 0
  obtain ⟨B2, e2, hq, S2⟩ := S1.shut 0
  have hLL2 : LL B2 q rows := ⟨as, hq, hR.mono e2⟩
  walk_at "go"
  refine w_isiL (S2.ex _ _ hq) (by decide +kernel : kitB "list" "list" = some true) ?_
  walk_at "go"
  refine iteF ?_
  walk_at "go"
  refine w_neLL (hLL2.mono S2.ex) (((hp.mono e1).mono e2).mono S2.ex) ?_
  walk_at "go"
  rw [decide_eq_true rfl]
  refine iteF ?_
  walk_at "go"
  refine w_iLE (sqL_of (S2.ex _ _ hq)) ?_
  refine lc_L S2 hq (fun i B' acc => B' = B2 ∧ acc = (List.replicate i true).map V.bl) ⟨rfl, rfl⟩ ?_ ?_
  · rintro i x D B' acc H' hi hli e S' ⟨rfl, rfl⟩
    obtain ⟨b, hb, rfl⟩ : ∃ b, as[i]? = some b ∧ V.ref b = x := by simpa using hi
    have hil : i < as.length := (List.getElem?_eq_some_iff.mp hb).1
    obtain ⟨b', h1, h2⟩ := hR.get (i := i) (List.getElem?_eq_getElem (show i < rows.length by omega))
    rw [hb] at h1; cases h1
    walk_at "go"
    refine ⟨rfl, ?_⟩
    walk_at "go"
    refine iteT ?_
    walk_at "go"
    refine w_isiL (S'.ex _ _ (e2 _ _ h2)) (by decide +kernel : kitB "list" "list" = some true) ?_
    exact lcp S' (Same.refl _) hli (by omega) ⟨rfl, by rw [List.replicate_succ', List.map_append]; rfl⟩
  · rintro D B' acc H' e S' hli ⟨rfl, rfl⟩
    walk_at "go"
    refine w_all (sqL_of (S'.get 0)) ?_
    rw [all_true]
    walk_at "go"
    refine iteF ?_
    -- what was told is changed
    obtain ⟨r0, hr0⟩ : ∃ r, rows[0]? = some r := ⟨_, List.getElem?_eq_getElem (by omega)⟩
    obtain ⟨a0, ha0, hl0⟩ := hR.get hr0
    have S3 := ((S'.drop 0).thaw e2 hq0 hq).thaw e1 (hf a0 (List.mem_of_getElem? ha0)) hl0
    have hrl := (hv.row r0 (List.mem_of_getElem? hr0)).1
    walk_at "go"
    refine w_ixL (v := .ref a0) (sqL_of (S3.get 1)) (at_of (j := 0) rfl (by rw [List.getElem?_map, ha0]; rfl)) ?_
    refine ⟨tyL (sqL_of (S3.get 0)), ?_⟩
    walk_at "go"
    refine w_append S3 0 rfl (len_lt (by simp; omega)) fun H3 S4 => ?_
    walk_at "go"
    refine ⟨tyL (sqL_of (S4.get 1)), ?_⟩
    walk_at "go"
    refine w_lst S4 (len_ok (by simp)) fun z H4 S5 => ?_
    walk_at "go"
    refine w_append S5 2 rfl (len_lt (by simp; omega)) fun H5 S6 => ?_
    replace S6 := S6.sub (M' := M) (fun c hc => List.mem_cons_of_mem _ (List.mem_cons_of_mem _ (List.mem_cons_of_mem _ hc))) S.nd
    walk_at "go"
    refine w_methE (S6.ex _ _ ha) (look1n (by decide +kernel)) ?_
    walk_at "go"
    refine ⟨B, M, a, rows, rfl, S6, hw, hv, fun y H6 S7 => ?_⟩
    have hy0 := S7.out 0
    obtain ⟨B3, e3, hy, S8⟩ := S7.shut 0
    have hrn : (restsTo rows rows.length).length ≤ 8 := by
      unfold restsTo
      rw [List.length_map]
      refine Nat.le_trans (List.length_filter_le _ _) ?_
      rw [List.length_range]
      exact hle
    walk_at "go"
    refine ⟨B3, M, y, restsTo rows rows.length, rfl, S8, hy, by omega, fun H7 S9 => ?_⟩
    walk_at "go"
    refine iteF ?_
    walk_at "go"
    refine w_iEE (sqL_of (S9.ex _ _ (e3 _ _ hps))) ?_
    refine lc_E S9 (e3 _ _ hps) (fun i B' acc => B' = B3 ∧ acc = (restsTo rows i).map V.int) ⟨rfl, rfl⟩ ?_ ?_
    · rintro i x D T0 B' acc H8 hi hli e S10 ⟨rfl, rfl⟩
      obtain ⟨b, hb, rfl⟩ : ∃ b, ps[i]? = some b ∧ V.ref b = x := by simpa using hi
      have hil : i < rows.length := by have := (List.getElem?_eq_some_iff.mp hb).1; omega
      obtain ⟨b', h1, h2⟩ := hPR.get (i := i) (List.getElem?_eq_getElem hil)
      rw [hb] at h1; cases h1
      refine w_gtup (sqT_of (S10.get 0)) rfl ?_
      walk_at "go"
      refine ⟨rfl, ?_⟩
      walk_at "go"
      refine w_lst S10 (len_ok (by simp)) fun z2 H9 S11 => ?_
      refine w_eqI (ys := []) (S11.ex _ _ (e3 _ _ h2)) (S11.get 0) ?_
      have S12 := (S11.drop 0).drop 0
      have er : restsTo rows (i + 1) = restsTo rows i ++ if rows[i] = [] then [(i : Int)] else [] := by
        unfold restsTo
        rw [List.range_succ, List.filter_append, List.map_append]
        congr 1
        rw [List.filter_cons, List.getElem?_eq_getElem hil]
        by_cases h : rows[i] = []
        · simp [h]
        · simp [h]
      walk_at "go"
      by_cases h : rows[i] = []
      · rw [decide_eq_true h]
        refine iteT ?_
        walk_at "go"
        refine lcp S12 (Same.refl _) hli (by omega) ⟨rfl, ?_⟩
        rw [er, if_pos h, List.map_append]; rfl
      · rw [decide_eq_false h]
        refine iteF ?_
        refine lcn S12 (Same.refl _) hli ⟨rfl, ?_⟩
        rw [er, if_neg h, List.append_nil]
    · rintro D2 B' acc H8 e S10 hli2 ⟨rfl, rfl⟩
      rw [show (ps.map V.ref).length = rows.length by simp; omega] at S10
      refine w_neI (S10.ex _ _ hy) (S10.get 0) ?_
      rw [decide_eq_true rfl]
      walk_at "go"
      refine iteF ?_
      have S11 := (S10.drop 0).thaw e3 hy0 hy
      walk_at "go"
      refine ⟨tyL (sqL_of (S11.get 0)), ?_⟩
      walk_at "go"
      refine w_append S11 0 rfl (len_lt (by simp; omega)) fun H9 S12 => ?_
      replace S12 := S12.drop 0
      walk_at "go"
      refine w_methE (S12.ex _ _ ha) (look1n (by decide +kernel)) ?_
      walk_at "go"
      refine ⟨B, M, a, rows, rfl, S12, hw, hv, fun b H10 S13 hb => ?_⟩
      walk_at "go"
      refine w_isiB (by decide +kernel : kitB "bool" "bool" = some true) ?_
      walk_at "go"
      refine iteT ?_
      walk_at "go"
      refine ⟨B, M, p, rows, rfl, S13, hp, hv, fun b2 H11 S14 hb2 => ?_⟩
      refine w_eqS rfl ?_
      rw [bool_eq_of hb hb2, decide_eq_true rfl]
      walk_at "go"
      refine iteT ?_
      walk_at "go"
      refine w_methE (S14.ex _ _ ha) (look1n (by decide +kernel)) ?_
      walk_at "go"
      refine ⟨a, rows, rfl, hw.mono S14.ex, ?_⟩
      walk_at "go"
      refine w_len (sqL_of (S14.ex _ _ hps)) ?_
      refine w_eqS rfl ?_
      rw [decide_eq_true (by rw [List.length_map, hpl])]
      exact hQ _ S14
end
end Rw

namespace Rw
open PySem PySem.Spec PyProof.Rows L2
local macro_rules | `(tactic| walk_at "go1") => `(tactic| first
  | (with_reducible refine w_seq ?_)
  | (with_reducible refine w_asg ?_)
  | (with_reducible refine w_name ?_)
  | (with_reducible refine w_drop ?_)
  | (with_reducible refine w_ret ?_)
  | (with_reducible refine w_next ?_)
  | (with_reducible refine w_op ?_)
  | (with_reducible refine w_un ?_)
  | (with_reducible refine w_c ?_)
  | (with_reducible refine w_var (by with_unfolding_all rfl) ?_)
  | (with_reducible refine w_rI0 ?_)
  | (with_reducible refine w_rU ?_)
  | ((with_reducible refine w_mod ?_ ?_); (show (0 : Int) < _); omega)
  | ((with_reducible refine w_div ?_ ?_); exact And.intro (by omega) (by omega))
  | ((with_reducible refine w_mul ?_ ?_); (first | exact Or.inl (And.intro (by omega) (by omega)) | exact Or.inr (And.intro (by omega) (by omega))))
  | (with_reducible refine w_ifS ?_)
  | (with_reducible refine w_if ?_)
  | (with_reducible refine w_test ?_)
  | (with_reducible refine w_B ?_)
  | (with_reducible refine w_bl ?_)
  | (with_reducible refine w_not ?_)
  | (with_reducible refine w_and ?_)
  | (with_reducible refine w_or ?_)
  | (with_reducible refine w_cons ?_)
  | (with_reducible refine w_nil ?_)
  | (with_reducible refine w_call ?_)
  | (with_reducible refine w_cb ?_)
  | (with_reducible refine w_bm0 ?_)
  | (with_reducible refine w_bm ?_)
  | (with_reducible refine w_tlst ?_)
  | (with_reducible refine w_ttup ?_)
  | (with_reducible refine w_sub ?_)
  | (with_reducible refine w_for ?_)
  | (with_reducible refine w_rng1 ?_)
  | ((with_reducible refine w_rngE ?_ ?_ ?_); omega; omega)
  | (with_reducible refine w_iL ?_)
  | (with_reducible refine w_iT ?_)
  | (with_reducible refine w_iE ?_)
  | (with_reducible refine w_iZ ?_)
  | (with_reducible refine w_lc ?_)
  | (with_reducible refine w_yes ?_)
  | (with_reducible refine w_gcons ?_)
  | (with_reducible refine w_gnil ?_)
  | (with_reducible refine w_max2 ?_)
  | (with_reducible refine w_sl ?_)
  | (with_reducible refine w_part ?_)
  | (with_reducible refine w_partI ?_)
  | (with_reducible refine w_nopart ?_)
  | (with_reducible refine w_isT ?_)
  | (with_reducible refine w_notT ?_)
  | (with_reducible refine w_isB ?_)
  | (with_reducible refine w_notB ?_)
  | (with_reducible refine w_isN ?_)
  | (with_reducible refine w_notN ?_)
  | (with_reducible refine w_fld ?_)
  | (with_reducible refine w_ftm ?_)
  | (with_reducible refine w_lrg ?_)
  | (with_reducible refine w_rg1 ?_)
  | (with_reducible refine w_rg1E ?_)
  | (with_reducible refine w_tru ?_)
  | (with_reducible refine w_truB ?_)
  | (with_reducible refine w_truI ?_)
  | (with_reducible refine w_notT' ?_)
  | (with_reducible refine w_andT ?_)
  | (with_reducible refine w_orT ?_)
  | (with_reducible refine w_andV ?_)
  | (with_reducible refine w_orV ?_)
  | (with_reducible refine w_andE ?_)
  | (with_reducible refine w_orE ?_)
  | (with_reducible refine w_notV ?_)
  | (with_reducible refine w_notE ?_)
  | (with_reducible refine w_chain ?_)
  | (with_reducible refine w_chainI ?_)
  | (with_reducible refine w_meth ?_)
  | (with_reducible refine w_make ?_)
  | (with_reducible refine w_sfld ?_))
local macro_rules | `(tactic| walk_at "go") => `(tactic| repeat walk_at "go1")

section
variable {B B1 H : Hp} {M : List (Addr × HO)} {a : Addr} {o : HO} {Q : VK} {σ : L2.St} {D : Ends}
/-- without one thing -/
def del (B : Hp) (a : Addr) : Hp := fun b => if b = a then none else B b
theorem del_ne {b : Addr} (h : b ≠ a) : del B a b = B b := by unfold del; rw [if_neg h]
theorem del_same : del B a a = none := by unfold del; rw [if_pos rfl]
theorem Hs.open_ (S : Hs B M H) (h : B a = some o) : Hs (del B a) ((a, o) :: M) H := by
  refine ⟨fun b u e => ?_, fun c hc => ?_, List.nodup_cons.mpr ⟨fun hm => ?_, S.nd⟩⟩
  · by_cases hb : b = a
    · subst hb
      rw [del_same] at e
      cases e
    · rw [del_ne hb] at e
      exact S.ex b u e
  · rcases List.mem_cons.mp hc with q | q
    · subst q
      exact ⟨del_same, S.ex _ _ h⟩
    · obtain ⟨h1, h2⟩ := S.cel c q
      refine ⟨?_, h2⟩
      by_cases hb : c.1 = a
      · rw [hb]; exact del_same
      · rw [del_ne hb]; exact h1
  · obtain ⟨c, hc, q⟩ := List.mem_map.mp hm
    have := (S.cel c hc).1
    rw [show c.1 = a from q, h] at this
    cases this
theorem Same.del (e : Same B1 B) (h : B1 a = none) : Same B1 (del B a) := fun b u q => by
  rw [del_ne (ne_of_none q h)]
  exact e b u q
theorem WebAt.del {C w : Addr} {rows : List (List Int)} {xs : List V} (h : WebAt C B w rows) (ha : B a = some (.lst xs)) : WebAt C (del B a) w rows := by
  obtain ⟨dx, t, h1, ts, h2, h3⟩ := h.ex
  have keep : ∀ {b : Addr} {ys : List V}, FT B b ys → FT (Rw.del B a) b ys := fun {b ys} ⟨ob, c1, c2, c3⟩ => ⟨ob, c1, c2, by
    rw [del_ne (ne_of c3 ha (by intro z; cases z))]
    exact c3⟩
  refine ⟨dx, t, ?_, ts, keep h2, ?_⟩
  · rw [del_ne (ne_of h1 ha (by intro z; cases z))]
    exact h1
  · exact Paired.mapP h3 fun _ _ z => keep z
/-- two ways that come to the same -/
theorem ite_post {P : Prop} [Decidable P] {ta tb : TE} (Post : V → Hp → Prop) (h1 : P → ∀ Q' : VK, (∀ v H', Post v H' → Q' v H') → ta σ H Q') (h2 : ¬ P → ∀ Q' : VK, (∀ v H', Post v H' → Q' v H') → tb σ H Q') (k : ∀ v H', Post v H' → Q v H') : if decide P = true then ta σ H Q else tb σ H Q := by
  by_cases h : P
  · exact iteP h (h1 h Q k)
  · exact iteN h (h2 h Q k)
theorem ifS_post {P : Prop} [Decidable P] {t u : TS} (Post : L2.St → Hp → Prop) (h1 : P → ∀ D' : Ends, (∀ σ' H', Post σ' H' → D'.nx σ' H') → t D' σ H) (h2 : ¬ P → ∀ D' : Ends, (∀ σ' H', Post σ' H' → D'.nx σ' H') → u D' σ H) (k : ∀ σ' H', Post σ' H' → D.nx σ' H') : if decide P = true then t D σ H else u D σ H := by
  by_cases h : P
  · exact iteP h (h1 h D k)
  · exact iteN h (h2 h D k)
theorem cutV_ints (ns : List Int) (lo hi : Option Int) : ∃ zs : List Int, cutV (ns.map V.int) lo hi = zs.map V.int ∧ zs.length ≤ ns.length := by
  unfold cutV
  refine ⟨(ns.drop (HT.sIx (ns.map V.int).length 0 lo)).take (HT.sIx (ns.map V.int).length (ns.map V.int).length hi - HT.sIx (ns.map V.int).length 0 lo), ?_, ?_⟩
  · rw [List.map_take, List.map_drop]
  · rw [List.length_take, List.length_drop]
    omega
end
def spLaw (K : PySem.W.Frag) : Sp := fun vs H Q _ => ∃ (a : Addr) (ns : List Int), vs = [.ref a] ∧ SqL K H a (ns.map V.int) ∧ ns.length ≤ 63 ∧ ∀ H', Q (.bl true) H'
-- law: 0 _law_script, 1 _law_k, 2 _law_cell, 3 _law_number, 4 _law_rows_here, 5 _law_handed, 6 _law_web, 7 _law_turn, 8 _law_place, 9 _law_told_here, 10 _law_there, 11 _law_other, 12 _law_found, 13 _law_row
abbrev s_law : Stmt := top 25
theorem sc_law : FnScope ["_law_script", "_law_k", "_law_cell", "_law_number", "_law_rows_here", "_law_handed", "_law_web", "_law_turn", "_law_place", "_law_told_here", "_law_there", "_law_other", "_law_found", "_law_row"] ["_law_script"] (defScope s_law) := ⟨rfl, rfl, rfl, by decide +kernel, rfl, by decide +kernel, by decide +kernel⟩
section
variable {P : Program} {w : World} {K : PySem.W.Frag} {mg : Str → Option Value} {base : Heap} {CW : Addr}
theorem ok_law (T : NamesL mg) (T_Web : Cls K CW) (G : Glo K mg "law" s_law) (C_law_mixed : Cal P w K mg base "_law_mixed" 5 ["_law_cell", "_law_k"] spMixed) (C_law_even : Cal P w K mg base "_law_even" 5 ["_law_cell", "_law_k"] spEven) (C_law_rows : Cal P w K mg base "_law_rows" 5 ["_law_cell", "_law_k"] (spRows K))
    (C_law_rings : Cal P w K mg base "_law_rings" 5 ["_law_number"] spRings) (C_is_web : Cal P w K mg base "is_web" 5 ["thing"] spIsWeb) (C_Web : CalC P w K mg base CW "Web" 4 ["self", "rows"] (spInit CW)) (C_law_told : Cal P w K mg base "_law_told" 5 ["_law_web", "_law_rows_here"] (spTold CW))
    (C_Web_is_rest : CalM P w K mg base CW "is_rest" 5 ["self", "place"] (spIsRest CW)) (C_law_reached : Cal P w K mg base "_law_reached" 5 ["_law_rows_here", "_law_begins"] spReachedL) (C_Web_comes : CalM P w K mg base CW "comes" 5 ["self", "place", "other"] (spComes CW)) : Cal P w K mg base "law" 6 ["_law_script"] (spLaw K) := by
  refine G.cal (k := 5) sc_law (fun _ _ _ _ _ _ us hl => match us, hl with | [_], _ => rfl) (fun vs H Q E h => ?_) (fun f cdv A outer s H vs Q E hr h => ?_)
  · obtain ⟨a, ns, rfl, _⟩ := h; rfl
  obtain ⟨a, ns, rfl, hS, hn, hQ⟩ := h
  refine ⟨_, (pss_cons (ps_for PassesOwn.never rfl (pi_enumK K rfl T.n_enumerate (pa_cons (pe_slice (k_slL K) (pv 0) po_none (po_some pe_int)) pa_nil)) (pg_tupK (n := 2) K rfl (pgs_cons (pg_name (i := 1) sc_law.nd rfl (Or.inl rfl)) (pgs_cons (pg_name (i := 2) sc_law.nd rfl (Or.inl rfl)) pgs_nil))) (pss_cons (ps_set (i := 3) sc_law.nd rfl (Or.inl rfl) (pe_cal C_law_mixed hr rfl (pa_cons (pv 2) (pa_cons (pe_op op_add (pv 1) pe_int) pa_nil)))) (pss_cons (ps_set (i := 4) sc_law.nd rfl (Or.inl rfl) (pe_ifExp (pt_cmpR op_eq (pe_op op_mod (pv 3) pe_int) pe_int (nomark _)) (pe_cal C_law_even hr rfl (pa_cons (pv 2) (pa_cons (pv 1) pa_nil))) (pe_cal C_law_rows hr rfl (pa_cons (pv 2) (pa_cons (pv 1) pa_nil))))) (pss_cons (ps_if (pt_cmpR op_eq (pe_op op_mod (pe_op op_fdiv (pv 3) pe_int) pe_int) pe_int (nomark _)) (pss_one (ps_set (i := 4) sc_law.nd rfl (Or.inl rfl) (pe_cal C_law_rings hr rfl (pa_cons (pe_op op_fdiv (pv 3) pe_int) pa_nil)))) pss_nil) (pss_cons (ps_setLc (i := 5) (own := [("_law_row", 13)]) rfl sc_law.nd rfl rfl (sw_true rfl rfl rfl (by decide +kernel)) (pi_listK K (pv 4)) (blkOk_by (own := [("_law_row", 13)]) (N := ["_law_script", "_law_k", "_law_cell", "_law_number", "_law_rows_here", "_law_handed", "_law_web", "_law_turn", "_law_place", "_law_told_here", "_law_there", "_law_other", "_law_found", "_law_row"]) (sc := defScope s_law) (by decide +kernel)) (fun _ _ _ _ _ => (pg_name (i := 13) sc_law.nd rfl (Or.inl rfl))) (fun _ _ _ _ _ => pts_nil) (fun _ _ _ _ _ => (pe_callTy (k_list K) rfl T.n_list (by decide +kernel) (pa_cons (pv 13) pa_nil)))) (pss_cons (ps_if (pt_cmpR op_notBX (pe_cal C_is_web hr rfl (pa_cons (pv 5) pa_nil)) pe_bl (nomark _)) (pss_one (ps_ret pe_bl)) pss_nil) (pss_cons (ps_set (i := 6) sc_law.nd rfl (Or.inl rfl) (pe_mk C_Web hr rfl (pa_cons (pv 5) pa_nil))) (pss_cons (ps_expr (pe_bmK K PySem.F.plainAttrs_list PySem.F.slot_list_append PySem.F.type_list_append mt_append (pe_ix (k_ixL K) (pv 5) pe_int (fun _ _ => rfl)) (pa_cons pe_int pa_nil))) (pss_cons (ps_expr (pe_bmK K PySem.F.plainAttrs_list PySem.F.slot_list_append PySem.F.type_list_append mt_append (pv 5) (pa_cons (pe_lst (pa_cons pe_int pa_nil)) pa_nil))) (pss_cons (ps_for PassesOwn.never rfl (pi_range1 rfl T.n_range (pa_cons pe_int pa_nil)) (pg_name (i := 7) sc_law.nd rfl (Or.inl rfl)) (pss_one (ps_if (pt_not (pt_val (pe_cal C_law_told hr rfl (pa_cons (pv 6) (pa_cons (pv 4) pa_nil))))) (pss_one (ps_ret pe_bl)) pss_nil))) (pss_one (ps_for PassesOwn.never rfl (pi_range1 rfl T.n_range (pa_cons (pe_callB (k_len K) rfl T.n_len boot_len (pa_cons (pv 4) pa_nil)) pa_nil)) (pg_name (i := 8) sc_law.nd rfl (Or.inl rfl)) (pss_cons (ps_set (i := 9) sc_law.nd rfl (Or.inl rfl) (pe_calM (pv 6) T_Web C_Web_is_rest hr (pa_cons (pv 8) pa_nil))) (pss_cons (ps_if (PW.pt (pw_or (pt_not (pt_val (pe_callB (k_isi K) rfl T.n_isinstance (by decide +kernel) (pa_cons (pv 9) (pa_cons (pe_bltn (v := .ty "bool") rfl T.n_bool (by decide +kernel) rfl) pa_nil))))) (pw_or1 (pt_cmpR op_ne (pv 9) (pe_cmpR (k_eqD K hr.units) (pe_ix (k_ixL K) (pv 4) (pv 8) (fun _ _ => rfl)) (pe_lst pa_nil) (nomark _)) (nomark _))))) (pss_one (ps_ret pe_bl)) pss_nil) (pss_cons (ps_set (i := 10) sc_law.nd rfl (Or.inl rfl) (pe_cal C_law_reached hr rfl (pa_cons (pv 4) (pa_cons (pe_lst (pa_cons (pv 8) pa_nil)) pa_nil)))) (pss_one (ps_for PassesOwn.never rfl (pi_range1 rfl T.n_range (pa_cons (pe_callB (k_len K) rfl T.n_len boot_len (pa_cons (pv 4) pa_nil)) pa_nil)) (pg_name (i := 11) sc_law.nd rfl (Or.inl rfl)) (pss_cons (ps_set (i := 12) sc_law.nd rfl (Or.inl rfl) (pe_calM (pv 6) T_Web C_Web_comes hr (pa_cons (pv 8) (pa_cons (pv 11) pa_nil)))) (pss_one (ps_if (PW.pt (pw_or (pt_not (pt_val (pe_callB (k_isi K) rfl T.n_isinstance (by decide +kernel) (pa_cons (pv 12) (pa_cons (pe_bltn (v := .ty "bool") rfl T.n_bool (by decide +kernel) rfl) pa_nil))))) (pw_or1 (pt_cmpR op_ne (pv 12) (pe_cmpR (k_in K) (pv 11) (pv 10) (by rfl)) (nomark _))))) (pss_one (ps_ret pe_bl)) pss_nil)))))))))))))))))))) (pss_one (ps_ret pe_bl))), ?_⟩
  walk_at "go"
  refine w_slice (Hs.nil H) hS fun p H1 S1 => ?_
  obtain ⟨zs, ez, hz⟩ := cutV_ints ns none (some 63)
  rw [ez] at S1
  obtain ⟨B1, e1, hp1, S2⟩ := S1.shut 0
  walk_at "go"
  refine w_iEE (sqL_of (S2.ex _ _ hp1)) ?_
  refine for_enu (xs := zs.map V.int) (fun i σ H => ∃ v1 v2 v3 v4 v5 v6 v7 v8 v9 v10 v11 v12 v13 : Option V, σ = [some (.ref a), v1, v2, v3, v4, v5, v6, v7, v8, v9, v10, v11, v12, v13] ∧ Hs B1 [] H)
    ⟨none, none, none, none, none, none, none, none, none, none, none, none, none, rfl, S2⟩ (fun i σ H _ ⟨_, _, _, _, _, _, _, _, _, _, _, _, _, _, S3⟩ => sqL_of (S3.ex _ _ hp1)) ?_ ?_
  · rintro i x σ H2 T0 hx ⟨v1, v2, v3, v4, v5, v6, v7, v8, v9, v10, v11, v12, v13, rfl, S3⟩ hT0
    obtain ⟨c, hc, rfl⟩ : ∃ c, zs[i]? = some c ∧ V.int c = x := by simpa using hx
    have hi63 : i < 63 := by have := (List.getElem?_eq_some_iff.mp hc).1; omega
    have S4 := S3.new hT0 (.tup [.int (i : Int), .int c])
    generalize upd H2 T0 (.tup [.int (i : Int), .int c]) = H3 at S4
    refine w_gtup (sqT_of (S4.get 0)) rfl ?_
    replace S4 := S4.drop 0
    walk_at "go"
    refine ⟨_, _, rfl, by omega, by omega, ?_⟩
    have n0 := mixed_nn c ((i : Int) + 90)
    generalize mixed c ((i : Int) + 90) = num at *
    walk_at "go"
    refine w_eqS rfl ?_
    walk_at "go"
    refine ite_post (fun v H' => ∃ (q : Addr) (B' : Hp) (rows : List (List Int)), v = .ref q ∧ Valid rows ∧ Same B1 B' ∧ Hs B' [] H' ∧ LL B' q rows) (fun _ Q' k => ?_) (fun _ Q' k => ?_) ?_
    · walk_at "go"
      refine ⟨B1, [], c, (i : Int), rfl, by omega, by omega, S4, fun rows q B' H' hv _ e S' hL => ?_⟩
      exact k _ _ ⟨q, B', rows, rfl, hv, e, S', hL⟩
    · walk_at "go"
      refine ⟨c, (i : Int), B1, [], rfl, by omega, by omega, S4, fun q B' H' e S' hL => ?_⟩
      exact k _ _ ⟨q, B', _, rfl, rows_valid c i, e, S', hL⟩
    rintro v H4 ⟨q0, Ba, rows0, rfl, hv0, ea, S5, hL0⟩
    walk_at "go"
    refine w_eqS rfl ?_
    walk_at "go"
    refine ifS_post (fun σ' H' => ∃ (q : Addr) (B' : Hp) (rows : List (List Int)), σ' = [some (.ref a), some (.int (i : Int)), some (.int c), some (.int num), some (.ref q), v5, v6, v7, v8, v9, v10, v11, v12, v13] ∧ Valid rows ∧ Same B1 B' ∧ Hs B' [] H' ∧ LL B' q rows) (fun _ D' k => ?_) (fun _ D' k => ?_) ?_
    · walk_at "go"
      refine ⟨Ba, [], num / 24, rfl, by omega, S5, fun rows q B' H' hv e S' hL => ?_⟩
      exact k _ _ ⟨q, B', rows, rfl, hv, ea.trans e, S', hL⟩
    · walk_at "go"
      exact k _ _ ⟨q0, Ba, rows0, rfl, hv0, ea, S5, hL0⟩
    clear S5 hL0 hv0 ea
    rintro σ' H5 ⟨q, Bq, rows, rfl, hv, eq, S5, hL⟩
    have hle := hv.le
    have hpos := hv.pos
    obtain ⟨qs, hqs, hQR⟩ := id hL
    have hql := hQR.length
    walk_at "go"
    refine w_iLE (sqL_of (S5.ex _ _ hqs)) ?_
    refine lc_L S5 hqs (fun j B' acc => ∃ as : List Addr, acc = as.map V.ref ∧ LR B' as (rows.take j) ∧ ∀ y ∈ as, Bq y = none) ⟨[], rfl, .nil, by simp⟩ ?_ ?_
    · rintro j y D B' acc H' hj hlj e S' ⟨as, rfl, hR, hf⟩
      obtain ⟨b, hb, rfl⟩ : ∃ b, qs[j]? = some b ∧ V.ref b = y := by simpa using hj
      have hjl : j < rows.length := by have := (List.getElem?_eq_some_iff.mp hb).1; omega
      obtain ⟨b', h1, h2⟩ := hQR.get (i := j) (List.getElem?_eq_getElem hjl)
      rw [hb] at h1; cases h1
      walk_at "go"
      refine ⟨rfl, ?_⟩
      walk_at "go"
      refine iteT ?_
      walk_at "go"
      refine w_listL S' (sqL_of (S'.ex _ _ (e _ _ h2))) fun z H6 S6 => ?_
      have hz0 := S6.out 0
      obtain ⟨B2, e2, hz, S7⟩ := S6.shut 0
      refine lcp S7 (e.trans e2) hlj (by omega) ⟨as ++ [z], by simp, ?_, ?_⟩
      · rw [List.take_add_one, List.getElem?_eq_getElem hjl]
        exact (hR.mono e2).snoc hz
      · intro y hy
        rcases List.mem_append.mp hy with z' | z'
        · exact hf y z'
        · rw [List.mem_singleton.mp z']
          exact e.free hz0
    · rintro D B2 acc H6 e2 S6 hli ⟨as, rfl, hR, hf⟩
      rw [List.take_of_length_le (by simp; omega)] at hR
      have hal := hR.length
      have hD0 := S6.out 0
      obtain ⟨B3, e3, hD, S7⟩ := S6.shut 0
      have hL3 : LL B3 D rows := ⟨as, hD, hR.mono e3⟩
      walk_at "go"
      refine ⟨B3, [], D, rows, rfl, S7, hL3, hv, fun H7 S8 => ?_⟩
      walk_at "go"
      refine iteF ?_
      walk_at "go"
      refine w_makeE S8 fun x dx H8 S9 => ?_
      refine ⟨B3, [], x, dx, D, rows, rfl, S9, hL3, hv, fun B4 H9 e4 S10 hw => ⟨rfl, ?_⟩⟩
      clear S9 S8 S7 S6
      walk_at "go"
      -- what was handed in is changed
      obtain ⟨r0, hr0⟩ : ∃ r, rows[0]? = some r := ⟨_, List.getElem?_eq_getElem (by omega)⟩
      obtain ⟨a0, ha0, hl0⟩ := hR.get hr0
      have hrl := (hv.row r0 (List.mem_of_getElem? hr0)).1
      have hD4 := e4 _ _ hD
      have ha4 : B4 a0 = some (.lst (r0.map V.int)) := e4 _ _ (e3 _ _ hl0)
      have hne : a0 ≠ D := ne_of_none hl0 hD0
      have S11 := (S10.open_ hD4).open_ (show del B4 D a0 = some (.lst (r0.map V.int)) by rw [del_ne hne]; exact ha4)
      have hw5 := (hw.del hD4).del (a := a0) (xs := r0.map V.int) (by rw [del_ne hne]; exact ha4)
      have e5 : Same Bq (del (del B4 D) a0) := Same.del (Same.del ((e2.trans e3).trans e4) (e2.free hD0)) (hf a0 (List.mem_of_getElem? ha0))
      generalize del (del B4 D) a0 = B5 at S11 hw5 e5
      clear S10
      refine w_ixL (v := .ref a0) (sqL_of (S11.get 1)) (at_of (j := 0) rfl (by rw [List.getElem?_map, ha0]; rfl)) ?_
      refine ⟨tyL (sqL_of (S11.get 0)), ?_⟩
      walk_at "go"
      refine w_append S11 0 rfl (len_lt (by simp; omega)) fun H10 S12 => ?_
      walk_at "go"
      refine ⟨tyL (sqL_of (S12.get 1)), ?_⟩
      walk_at "go"
      refine w_lst S12 (len_ok (by simp)) fun z H11 S13 => ?_
      walk_at "go"
      refine w_append S13 2 rfl (len_lt (by simp; omega)) fun H12 S14 => ?_
      replace S14 : Hs B5 [] H12 := ⟨S14.ex, fun c hc => by simp at hc, List.nodup_nil⟩
      clear S11 S12 S13
      have hL5 := hL.mono e5
      obtain ⟨ws, hws, hWR⟩ := id hL5
      have hwl := hWR.length
      obtain ⟨wdx, wt, hwx, _⟩ := hw5.ex
      walk_at "go"
      refine for_rng (fun t σ H => ∃ v7 : Option V, σ = [some (.ref a), some (.int (i : Int)), some (.int c), some (.int num), some (.ref q), some (.ref D), some (.ref x), v7, v8, v9, v10, v11, v12, v13] ∧ Hs B5 [] H)
        ⟨v7, rfl, S14⟩ ?_ ?_
      · rintro t σ H13 ht ⟨v7, rfl, S15⟩
        walk_at "go"
        refine ⟨B5, [], x, q, rows, rfl, S15, hw5, hL5, hv, fun H14 S16 => ?_⟩
        walk_at "go"
        refine iteF ?_
        walk_at "go"
        exact ⟨_, rfl, S16⟩
      · rintro σ H13 ⟨v7, rfl, S15⟩
        walk_at "go"
        refine w_len (sqL_of (S15.ex _ _ hws)) ?_
        rw [List.length_map, hwl]
        walk_at "go"
        refine for_rng (fun pl σ H => ∃ v8 v9 v10 v11 v12 : Option V, σ = [some (.ref a), some (.int (i : Int)), some (.int c), some (.int num), some (.ref q), some (.ref D), some (.ref x), v7, v8, v9, v10, v11, v12, v13] ∧ Hs B5 [] H)
          ⟨v8, v9, v10, v11, v12, rfl, S15⟩ ?_ ?_
        · rintro pl σ H14 hpl ⟨v8, v9, v10, v11, v12, rfl, S16⟩
          have hpn : pl < rows.length := by omega
          obtain ⟨wa, hwa, hwr⟩ := hWR.get (i := pl) (List.getElem?_eq_getElem hpn)
          walk_at "go"
          refine w_methE (S16.ex _ _ hwx) (look1n (by decide +kernel)) ?_
          walk_at "go"
          refine ⟨x, rows, (pl : Int), rows[pl], rfl, hw5.mono S16.ex, by omega, List.getElem?_eq_getElem hpn, ?_⟩
          walk_at "go"
          refine w_isiB (by decide +kernel : kitB "bool" "bool" = some true) ?_
          walk_at "go"
          refine iteF ?_
          walk_at "go"
          refine w_ixL (v := .ref wa) (sqL_of (S16.ex _ _ hws)) (atI_nat (by rw [List.getElem?_map, hwa]; rfl)) ?_
          walk_at "go"
          refine w_lst S16 (len_ok (by simp)) fun z2 H15 S17 => ?_
          refine w_eqI (ys := []) (S17.ex _ _ hwr) (S17.get 0) ?_
          refine w_neS rfl ?_
          rw [show decide (V.bl rows[pl].isEmpty = V.bl (decide (rows[pl] = []))) = true by cases rows[pl] <;> simp]
          walk_at "go"
          refine iteF ?_
          walk_at "go"
          refine w_lst (S17.drop 0) (len_ok (by simp)) fun z3 H16 S18 => ?_
          obtain ⟨B6, e6, hz3, S19⟩ := S18.shut 0
          walk_at "go"
          refine ⟨B6, [], q, z3, rows, [(pl : Int)], rfl, S19, hL5.mono e6, hz3, hv, by simp, ?_, fun th H17 L S20 hup hLm => ?_⟩
          · intro y hy
            rw [List.mem_singleton.mp hy]
            omega
          have hLm' : ∀ y, y ∈ L ↔ Rch rows (pl : Int) y := fun y => by rw [hLm y]; simp
          obtain ⟨B7, e7, hth, S21⟩ := S20.shut 0
          walk_at "go"
          refine w_len (sqL_of (S21.ex _ _ (e7 _ _ (e6 _ _ hws)))) ?_
          rw [List.length_map, hwl]
          walk_at "go"
          refine for_rng (fun ot σ H => ∃ v11 v12 : Option V, σ = [some (.ref a), some (.int (i : Int)), some (.int c), some (.int num), some (.ref q), some (.ref D), some (.ref x), v7, some (.int (pl : Int)), some (.bl rows[pl].isEmpty), some (.ref th), v11, v12, v13] ∧ Hs B7 [] H)
            ⟨v11, v12, rfl, S21⟩ ?_ ?_
          · rintro ot σ H18 hot ⟨v11, v12, rfl, S22⟩
            walk_at "go"
            refine w_methE (S22.ex _ _ (e7 _ _ (e6 _ _ hwx))) (look1n (by decide +kernel)) ?_
            walk_at "go"
            refine ⟨B7, [], x, rows, (pl : Int), (ot : Int), rfl, S22, (hw5.mono e6).mono e7, hv, by omega, by omega, by omega, by omega, fun b H19 S23 hb => ?_⟩
            walk_at "go"
            refine w_isiB (by decide +kernel : kitB "bool" "bool" = some true) ?_
            walk_at "go"
            refine iteF ?_
            walk_at "go"
            refine w_inL (sqL_of (S23.ex _ _ hth)) rfl (flat_ints _) ?_
            rw [inV_int]
            refine w_neS rfl ?_
            rw [show decide (V.bl b = V.bl (if false = true then !decide ((ot : Int) ∈ L) else decide ((ot : Int) ∈ L))) = true from decide_eq_true (by rw [if_neg Bool.false_ne_true, bool_eq_of hb (c := decide ((ot : Int) ∈ L)) (by rw [decide_eq_true_eq]; exact hLm' _)])]
            walk_at "go"
            refine iteF ?_
            walk_at "go"
            exact ⟨_, _, rfl, S23⟩
          · rintro σ H18 ⟨v11, v12, rfl, S22⟩
            exact ⟨_, _, _, v11, v12, rfl, (S22.less e7).less e6⟩
        · rintro σ H14 ⟨v8, v9, v10, v11, v12, rfl, S16⟩
          exact ⟨_, _, _, _, _, _, v7, v8, v9, v10, v11, v12, v13, rfl, S16.less (eq.trans e5)⟩
  · rintro σ H2 ⟨v1, v2, v3, v4, v5, v6, v7, v8, v9, v10, v11, v12, v13, rfl, S3⟩
    walk_at "go"
    exact hQ _
end
end Rw

set_option maxHeartbeats 0
namespace Rw
open PySem PySem.Spec PyProof.Rows L2
/-! ### the head: facts by names -/
def gD (x : Str) (st : Stmt) : He.FnD := ⟨(x, none), x, x, defArgs st, defBody st, defScope st⟩
def mD (c m q : Str) (st : Stmt) : He.FnD := ⟨(c, some m), m, q, defArgs st, defBody st, defScope st⟩
def hfn : List He.FnD := [gD "_law_mixed" s_law_mixed, gD "_law_rows" s_law_rows, gD "is_number" s_is_number, gD "_is_row" s_is_row, gD "is_web" s_is_web, gD "_reached" s_reached, gD "_ways_in" s_ways_in, gD "_law_numbers" s_law_numbers, gD "_law_reached" s_law_reached, gD "_law_is_even" s_law_is_even, gD "_law_rings" s_law_rings, gD "_law_even" s_law_even, gD "_law_told" s_law_told, gD "law" s_law, mD "Web" "many" "Web.many" s_Web_many, mD "Web" "check_place" "Web.check_place" s_Web_check_place, mD "Web" "is_rest" "Web.is_rest" s_Web_is_rest, mD "Web" "comes" "Web.comes" s_Web_comes, mD "Web" "rows" "Web.rows" s_Web_rows, mD "Web" "rests" "Web.rests" s_Web_rests, mD "Web" "_is_balanced" "Web._is_balanced" s_Web_is_balanced, mD "Web" "_is_joined" "Web._is_joined" s_Web_is_joined, mD "Web" "is_even" "Web.is_even" s_Web_is_even, mD "Web" "__init__" "Web.__init__" s_Web_init]
def hfa : List He.Fa := [.glo "_law_mixed", .keep "_law_mixed", .glo "_law_rows", .keep "_law_rows", .glo "is_number", .keep "is_number", .glo "_is_row", .keep "_is_row", .glo "is_web", .keep "is_web", .glo "_reached", .keep "_reached", .glo "_ways_in", .keep "_ways_in", .glo "_law_numbers", .keep "_law_numbers", .glo "_law_reached", .keep "_law_reached", .glo "_law_is_even", .keep "_law_is_even", .glo "_law_rings", .keep "_law_rings", .glo "_law_even", .keep "_law_even", .glo "_law_told", .keep "_law_told", .glo "law", .keep "law", .meth "Web" "many", .meth "Web" "check_place", .meth "Web" "is_rest", .meth "Web" "comes", .meth "Web" "rows", .meth "Web" "rests", .meth "Web" "_is_balanced", .meth "Web" "_is_joined", .meth "Web" "is_even", .meth "Web" "__init__", .glo "Web", .mkr "Web", .free "len", .free "range", .free "type", .free "list", .free "tuple", .free "int", .free "all", .free "any", .free "sum", .free "max", .free "zip", .free "enumerate", .free "divmod", .free "bool", .free "set", .free "sorted", .free "isinstance", .int "MOST_PLACES" 8, .int "MOST_WAYS" 3, .cls "Web", .noat "Web" "_ways", .exc "BadPlace", .glo "BadPlace"]
section
variable {K : PySem.W.Frag} {h : Heap} {mg : Str → Option Value}
theorem glo_by (X : K.In h) (G : h.Ns mainGlobals mg) (c : He.SaysE hfa hfn K) (i j l : Nat) {x : Str} {st : Stmt} (e1 : hfn[i]? = some (gD x st) := by rfl) (e2 : hfa[j]? = some (.glo x) := by rfl) (e3 : hfa[l]? = some (.keep x) := by rfl) : Glo K mg x st := by
  obtain ⟨oc, od, osl, kV, doc, pm, an, cdv, ct, lk, cd⟩ := c.def_ i e1
  exact ⟨⟨_, _, He.glo_ok X G (c.fact j e2), fun_mk (st := st) lk cd (He.keep_ok (c.fact l e3))⟩⟩
theorem meth_by (c : He.SaysE hfa hfn K) (i j : Nat) {cl m q : Str} {st : Stmt} (e1 : hfn[i]? = some (mD cl m q st) := by rfl) (e2 : hfa[j]? = some (.meth cl m) := by rfl) : GloM K (He.ga K cl) m q st := by
  obtain ⟨oc, od, osl, kV, doc, pm, an, cdv, ct, lk, cd⟩ := c.def_ i e1
  have M := He.meth_ok (c.fact j e2)
  exact ⟨⟨_, _, M, fun_mk (st := st) lk cd M.kp⟩⟩
theorem init_by (X : K.In h) (G : h.Ns mainGlobals mg) (c : He.SaysE hfa hfn K) (i j l n : Nat) {cl q : Str} {st : Stmt} (e1 : hfn[i]? = some (mD cl "__init__" q st) := by rfl) (e2 : hfa[j]? = some (.meth cl "__init__") := by rfl) (e3 : hfa[l]? = some (.glo cl) := by rfl) (e4 : hfa[n]? = some (.mkr cl) := by rfl) : GloC K mg (He.ga K cl) cl q st := by
  obtain ⟨oc, od, osl, kV, doc, pm, an, cdv, ct, lk, cd⟩ := c.def_ i e1
  have M := He.meth_ok (c.fact j e2)
  exact ⟨⟨_, _, He.glo_ok X G (c.fact l e3), He.mkr_ok (c.fact n e4), fun_mk (st := st) lk cd M.kp⟩⟩
end
theorem all_calls {P : Program} {w : World} {K : PySem.W.Frag} {h : Heap} {mg : Str → Option Value} (X : K.In h) (G : h.Ns mainGlobals mg) (c : He.SaysE hfa hfn K) (base : Heap) : Cal P w K mg base "law" 6 ["_law_script"] (spLaw K) := by
  have TB : Bare mg := ⟨(He.free_ok X G (c.fact 40 (f := .free "len") rfl)), (He.free_ok X G (c.fact 41 (f := .free "range") rfl))⟩
  have TN : Names mg := ⟨(He.free_ok X G (c.fact 40 (f := .free "len") rfl)), (He.free_ok X G (c.fact 41 (f := .free "range") rfl)), (He.free_ok X G (c.fact 42 (f := .free "type") rfl)), (He.free_ok X G (c.fact 43 (f := .free "list") rfl)), (He.free_ok X G (c.fact 44 (f := .free "tuple") rfl)), (He.free_ok X G (c.fact 45 (f := .free "int") rfl)), (He.free_ok X G (c.fact 46 (f := .free "all") rfl)), (He.free_ok X G (c.fact 47 (f := .free "any") rfl)), (He.free_ok X G (c.fact 48 (f := .free "sum") rfl)), (He.free_ok X G (c.fact 49 (f := .free "max") rfl)), (He.free_ok X G (c.fact 50 (f := .free "zip") rfl)), (He.free_ok X G (c.fact 51 (f := .free "enumerate") rfl)), (He.free_ok X G (c.fact 52 (f := .free "divmod") rfl)), (He.int_ok X G (c.fact 57 (f := .int "MOST_PLACES" 8) rfl)), (He.int_ok X G (c.fact 58 (f := .int "MOST_WAYS" 3) rfl))⟩
  have TL : NamesL mg := ⟨(He.free_ok X G (c.fact 40 (f := .free "len") rfl)), (He.free_ok X G (c.fact 41 (f := .free "range") rfl)), (He.free_ok X G (c.fact 43 (f := .free "list") rfl)), (He.free_ok X G (c.fact 45 (f := .free "int") rfl)), (He.free_ok X G (c.fact 53 (f := .free "bool") rfl)), (He.free_ok X G (c.fact 46 (f := .free "all") rfl)), (He.free_ok X G (c.fact 48 (f := .free "sum") rfl)), (He.free_ok X G (c.fact 54 (f := .free "set") rfl)), (He.free_ok X G (c.fact 55 (f := .free "sorted") rfl)), (He.free_ok X G (c.fact 56 (f := .free "isinstance") rfl)), (He.free_ok X G (c.fact 51 (f := .free "enumerate") rfl))⟩
  have TC : Cls K (He.ga K "Web") := He.cls_ok (c.fact 59 (f := .cls "Web") rfl)
  have TW_ : WebT K mg (He.ga K "Web") := ⟨TC, He.noat_ok (c.fact 60 (f := .noat "Web" "_ways") rfl)⟩
  have c1 : Cal P w K mg base _ _ _ _ := ok_mixed TB (glo_by X G c 0 0 1)
  have c2 := ok_rows TB (glo_by X G c 1 2 3) c1
  have c3 : Cal P w K mg base _ _ _ _ := ok_num TN (glo_by X G c 2 4 5)
  have c4 := ok_is_rowD TN (glo_by X G c 3 6 7) c3
  have c5 := ok_is_webD TN (glo_by X G c 4 8 9) c4
  have c6 : Cal P w K mg base _ _ _ _ := ok_reached TN (glo_by X G c 5 10 11)
  have c7 : Cal P w K mg base _ _ _ _ := ok_ways_in TN (glo_by X G c 6 12 13)
  have m1 : CalM P w K mg base _ _ _ _ _ := ok_many TN TW_ (meth_by c 14 28)
  have q2 := He.exc_ok (c.fact 61 (f := .exc "BadPlace") rfl)
  have RP : ErrT K mg "BadPlace" (He.ga K "BadPlace") := ⟨He.glo_ok X G (c.fact 62 (f := .glo "BadPlace") rfl), q2.1, q2.2.1, q2.2.2.1, q2.2.2.2⟩
  have x2 := ok_checkX TN TC RP (meth_by c 15 29) c3 m1
  have m2 := good_check x2
  have m3 := good_is_rest (ok_is_restX TN TW_ TC (meth_by c 16 30) x2)
  have m4 := ok_comes TN TW_ TC (meth_by c 17 31) m2 (c6.mono (by decide))
  have m5 : CalM P w K mg base _ _ _ _ _ := ok_rowsM TN TW_ (meth_by c 18 32)
  have m6 := ok_rests TN TW_ TC (meth_by c 19 33) m1
  have m7 := ok_balanced TN TW_ TC (meth_by c 20 34) m1 c7
  have m8 := ok_joined TN TW_ TC (meth_by c 21 35) m1 c6
  have m9 := ok_is_even TN TC (meth_by c 22 36) m6 m7 m8
  have i1 := ok_init TN TW_ (init_by X G c 23 37 38 39) c5
  have l1 : Cal P w K mg base _ _ _ _ := ok_numbers TL (glo_by X G c 7 14 15)
  have l2 : Cal P w K mg base _ _ _ _ := ok_reachedL TL (glo_by X G c 8 16 17)
  have l3 := ok_is_evenL TL (glo_by X G c 9 18 19) l2
  have l4 : Cal P w K mg base _ _ _ _ := ok_rings TL (glo_by X G c 10 20 21)
  have l5 := ok_even TL (glo_by X G c 11 22 23) c1
  have l6 := ok_told TL TC (glo_by X G c 12 24 25) (m5.mono (by decide)) (m6.mono (by decide)) m9 (m1.mono (by decide)) (l1.mono (by decide)) (l3.mono (by decide))
  exact ok_law TL TC (glo_by X G c 13 26 27) (c1.mono (by decide)) (l5.mono (by decide)) (c2.mono (by decide)) (l4.mono (by decide)) (good_is_web (c5.mono (by decide))) i1 (l6.mono (by decide)) (m3.mono (by decide)) (l2.mono (by decide)) (m4.mono (by decide))
abbrev theRow : PySem.W.OpenRow := PySem.W.OpenLaw.row PySem.Challenge.rw_rotorwalk_k02_webs
abbrev theHook : PySem.W.Hook := He.hookE 5 hfa hfn
def seen (s : PySem.W.SharedT) : He.Al := He.obsG 5 hfa hfn (HandSHeadRun.getT s)
theorem seen_eq (s : PySem.W.SharedT) : seen s = theHook.obs s.abs := He.obsG_eq (HandSHeadRun.getT_eq s)
def others : List Str := [("WalkError" : Str), ("BadWeb" : Str), ("BadPlace" : Str), ("is_number" : Str), ("MOST_PLACES" : Str), ("MOST_WAYS" : Str), ("is_web" : Str), ("_is_row" : Str), ("_reached" : Str), ("_ways_in" : Str), ("Web" : Str), ("_law_mixed" : Str), ("_law_numbers" : Str), ("_law_rows" : Str), ("_law_hands" : Str), ("_law_reached" : Str), ("_law_no_end" : Str), ("_law_even" : Str), ("_law_is_even" : Str), ("_law_told" : Str), ("_law_rings" : Str)]
theorem run (w : World) : HandSHeadRun.RunEq theRow (PySem.W.view theRow.prog [25]) theHook seen 8000 others w := by
  intro os
  kernel_rfl
theorem facts {P : Program} {w : World} {K : PySem.W.Frag} {h : Heap} {mg : Str → Option Value} {f : Addr} (X : K.In h) (G : h.Ns mainGlobals mg) (hfa_ : mg ("law" : Str) = some (.ref f)) (c : He.SaysE hfa hfn K) :
    ∃ fd : FuncData, (∀ (s : Shared) (v : Value), BindsTo s fd ⟨[v], []⟩ [("_law_script", v)]) ∧ ∀ base : Heap, K.In base → base.Ns mainGlobals mg → FnOk P w K mg base CX0 6 f fd ["_law_script"] (spLaw K) := by
  have GL : Glo K mg "law" s_law := (glo_by X G c 13 26 27)
  obtain ⟨f0, fd, h1, F⟩ := GL.ex
  have e := hfa_.symm.trans h1
  cases e
  obtain ⟨oc, od, kV, doc, pm, an, cdv, ct, osl, efd, lk, _⟩ := id F.ex
  refine ⟨fd, fun s v => ?_, fun base _ _ => ?_⟩
  · subst efd
    exact .of_eq rfl
  · obtain ⟨f', fd', q1, q2, q3, q4, oc', od', osl', lk'⟩ := (all_calls (P := P) (w := w) X G c base).ex
    have e1 := hfa_.symm.trans q1
    cases e1
    rw [lk] at lk'
    cases lk'
    exact q4
end Rw
open PySem PySem.W PySem.Calls PyProof.Rows
theorem PySem.Challenge.cw_rotorwalk_k02_webs_holds : PySem.Challenge.rw_rotorwalk_k02_webs.Holds := by
  w_on; o_law
  refine HandSHeadRun.head_any (r := OpenLaw.row PySem.Challenge.rw_rotorwalk_k02_webs) (q := view (OpenLaw.row PySem.Challenge.rw_rotorwalk_k02_webs).prog [25]) (H := Rw.theHook) (ob := Rw.seen) (M := 8000) (loose := Rw.others) (d := HandSHeadRun.topDef (OpenLaw.row PySem.Challenge.rw_rotorwalk_k02_webs).prog 25) (kwd := []) Rw.seen_eq
    (by kernel_rfl) (fun s => by kernel_rfl) Rw.run (by kernel_rfl) (by kernel_rfl) (by kernel_rfl) (by rfl) (by first | assumption | decide +kernel) (by decide +kernel) ⟨rfl, rfl, rfl, rfl, rfl, by decide +kernel⟩ ?hw ?hc
  case hw => w_witness2
  case hc =>
    refine L2.walk_ofE (l := PySem.Challenge.rw_rotorwalk_k02_webs) (n := 63) (k := 6) (x := "_law_script") (CX := L2.CX0) rfl (by decide) (by kernel_rfl) ⟨rfl, by decide, by decide⟩ ?F (fun _ _ _ _ z => z)
    intro w mg fa h Y G hmg0
    obtain ⟨K, KX, c⟩ := Y
    have hmg : mg ("law" : PySem.Str) = some (.ref fa) := by
      have e : (HandSHeadRun.topDef (OpenLaw.row PySem.Challenge.rw_rotorwalk_k02_webs).prog 25).name = ("law" : PySem.Str) := by kernel_rfl
      rw [← e]
      exact hmg0
    obtain ⟨fd, hb, hF⟩ := Rw.facts (P := (PySem.Challenge.rw_rotorwalk_k02_webs).prog) (w := w) KX G hmg c
    exact ⟨K, fd, Rw.spLaw K, KX, hb, fun H a ns hl _ hS => ⟨a, ns, rfl, hS, hl, fun _ => rfl⟩, hF⟩
