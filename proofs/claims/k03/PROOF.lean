import PyProof.Rows.All
import Wide.All
import OpenK.AllK
import Wide.FinOn
import HandS.ForMost
import HandS.Walk
import HandS.IsInst
import HandS.More
import HandS.SetFor
import HandS.Flow
import HandS.Conv
import HandS.Strs
import HandS.TupLe
import HandS.Exc
import HandS.ExcIs
import HandS.ExcField
import HandS.ExcValue
import HandS.ExcOwn
import HandS.WordsExc
import HandS.FStr
import KE.KExcIs
import PyProof.StrLaws
import PyProof.Rows.RegStrFacts
import HandS.Defaults
import HandS.HeadHook2
import HandS.Lambda
import PySem.Challenge.RW_rotorwalk_k03_webs_refused
import KE.KStateDown
import HandS.Head0
import HandS.Head1
import HandS.Head2
import HandS.HeadEnd
import HandS.HeadHook1
import HandS.HeadHook3
import HandS.HeadHook4
import HandS.HeadWalk
set_option Elab.async false
set_option linter.all false
set_option maxRecDepth 100000
/-! Rw: the heap in two parts: what stands still (B) and the cells that may change (M); calls by their promises. -/
namespace Rw
open PySem PySem.Spec PyProof.Rows L2

/-! ### the heap in two parts -/
structure Hs (B : Hp) (M : List (Addr × HO)) (H : Hp) : Prop where
  ex : Same B H
  cel : ∀ c ∈ M, B c.1 = none ∧ H c.1 = some c.2
  nd : (M.map (·.1)).Nodup

section
variable {B B' : Hp} {M : List (Addr × HO)} {H H' : Hp} {p : Addr} {o o' : HO} {i : Nat}
theorem Hs.nil (H : Hp) : Hs H [] H := ⟨Same.refl H, fun c h => by simp at h, List.nodup_nil⟩
theorem Hs.get (S : Hs B M H) (i : Nat) (h : M[i]? = some (p, o) := by rfl) : H p = some o := (S.cel _ (List.mem_of_getElem? h)).2
theorem Hs.out (S : Hs B M H) (i : Nat) (h : M[i]? = some (p, o) := by rfl) : B p = none := (S.cel _ (List.mem_of_getElem? h)).1
theorem Hs.free (S : Hs B M H) (h : H p = none) : B p = none := S.ex.free h
theorem Hs.new (S : Hs B M H) (hp : H p = none) (o : HO) : Hs B ((p, o) :: M) (upd H p o) := by
  refine ⟨fun b u e => ?_, fun c hc => ?_, ?_⟩
  · rw [upd_ne (ne_of_none (S.ex b u e) hp)]
    exact S.ex b u e
  · rcases List.mem_cons.mp hc with e | hm
    · subst e
      exact ⟨S.free hp, upd_same⟩
    · obtain ⟨h1, h2⟩ := S.cel c hm
      exact ⟨h1, by rw [upd_ne (ne_of_none h2 hp)]; exact h2⟩
  · refine List.nodup_cons.mpr ⟨fun hm => ?_, S.nd⟩
    obtain ⟨c, hc, e⟩ := List.mem_map.mp hm
    have e : c.1 = p := e
    have h2 := (S.cel c hc).2
    rw [e, hp] at h2
    cases h2
theorem mem_set_nd {M : List (Addr × HO)} {p : Addr} {o o' : HO} {i : Nat} (nd : (M.map (·.1)).Nodup) (h : M[i]? = some (p, o)) : ∀ c ∈ M.set i (p, o'), c = (p, o') ∨ (c ∈ M ∧ c.1 ≠ p) := by
  intro c hc
  obtain ⟨j, hj, e⟩ := List.mem_iff_getElem.mp hc
  by_cases hij : i = j
  · subst hij
    rw [List.getElem_set_self] at e
    exact .inl e.symm
  · rw [List.getElem_set_ne hij] at e
    have hj' : j < M.length := by rw [List.length_set] at hj; exact hj
    refine .inr ⟨e ▸ List.getElem_mem hj', fun q => hij ?_⟩
    obtain ⟨hi, ei⟩ := List.getElem?_eq_some_iff.mp h
    have h1 : (M.map (·.1))[i]'(by rw [List.length_map]; exact hi) = p := by rw [List.getElem_map, ei]
    have h2 : (M.map (·.1))[j]'(by rw [List.length_map]; exact hj') = p := by rw [List.getElem_map, e]; exact q
    exact (List.getElem_inj nd).mp (h1.trans h2.symm)
theorem Hs.put (S : Hs B M H) (i : Nat) (o' : HO) (h : M[i]? = some (p, o) := by rfl) : Hs B (M.set i (p, o')) (upd H p o') := by
  have hB := S.out i h
  refine ⟨fun b u e => ?_, fun c hc => ?_, ?_⟩
  · rw [upd_ne (ne_of_none e hB)]
    exact S.ex b u e
  · rcases mem_set_nd S.nd h c hc with e | ⟨hm, hn⟩
    · subst e
      exact ⟨hB, upd_same⟩
    · obtain ⟨h1, h2⟩ := S.cel c hm
      exact ⟨h1, by rw [upd_ne hn]; exact h2⟩
  · have e : (M.set i (p, o')).map (·.1) = M.map (·.1) := by
      rw [List.map_set]
      refine List.ext_getElem? fun j => ?_
      by_cases hij : i = j
      · subst hij
        obtain ⟨hi, ei⟩ := List.getElem?_eq_some_iff.mp h
        rw [List.getElem?_set_self (by rw [List.length_map]; exact hi), List.getElem?_map, h]
        rfl
      · rw [List.getElem?_set_ne hij]
    rw [e]
    exact S.nd
theorem mem_erase_nd {M : List (Addr × HO)} {p : Addr} {o : HO} {i : Nat} (nd : (M.map (·.1)).Nodup) (h : M[i]? = some (p, o)) : ∀ c ∈ M.eraseIdx i, c ∈ M ∧ c.1 ≠ p := by
  intro c hc
  obtain ⟨j, hj, hij⟩ := List.mem_eraseIdx_iff_getElem?.mp hc
  have hm := List.mem_of_getElem? hij
  refine ⟨hm, fun q => hj ?_⟩
  obtain ⟨hi, ei⟩ := List.getElem?_eq_some_iff.mp h
  obtain ⟨hj', ej⟩ := List.getElem?_eq_some_iff.mp hij
  have h1 : (M.map (·.1))[i]'(by rw [List.length_map]; exact hi) = p := by rw [List.getElem_map, ei]
  have h2 : (M.map (·.1))[j]'(by rw [List.length_map]; exact hj') = p := by rw [List.getElem_map, ej]; exact q
  exact (List.getElem_inj nd).mp (h2.trans h1.symm)
theorem nodup_erase {M : List (Addr × HO)} {i : Nat} (nd : (M.map (·.1)).Nodup) : ((M.eraseIdx i).map (·.1)).Nodup :=
  nd.sublist ((List.eraseIdx_sublist M i).map _)
theorem Hs.drop (S : Hs B M H) (i : Nat) : Hs B (M.eraseIdx i) H :=
  ⟨S.ex, fun c hc => S.cel c (List.mem_of_mem_eraseIdx hc), nodup_erase S.nd⟩
/-- a cell is shut: it stands still from now on -/
theorem Hs.frz (S : Hs B M H) (i : Nat) (h : M[i]? = some (p, o) := by rfl) : Hs (upd B p o) (M.eraseIdx i) H := by
  refine ⟨fun b u e => ?_, fun c hc => ?_, nodup_erase S.nd⟩
  · by_cases hb : b = p
    · subst hb
      rw [upd_same] at e
      cases e
      exact S.get i h
    · rw [upd_ne hb] at e
      exact S.ex b u e
  · obtain ⟨hm, hn⟩ := mem_erase_nd S.nd h c hc
    exact ⟨by rw [upd_ne hn]; exact (S.cel c hm).1, (S.cel c hm).2⟩
theorem Same.upd_none (h : B p = none) : Same B (upd B p o) := fun b u e => by
  rw [upd_ne (ne_of_none e h)]
  exact e
/-- the same, with a new name for what stands -/
theorem Hs.shut (S : Hs B M H) (i : Nat) (h : M[i]? = some (p, o) := by rfl) : ∃ B', Same B B' ∧ B' p = some o ∧ Hs B' (M.eraseIdx i) H := ⟨upd B p o, Same.upd_none (S.out i h), upd_same, S.frz i h⟩
/-- a new thing that stands still at once -/
theorem Hs.still (S : Hs B M H) (hp : H p = none) (o : HO) : Hs (upd B p o) M (upd H p o) := (S.new hp o).frz 0
/-- the cells in another order, or fewer -/
theorem Hs.sub {M' : List (Addr × HO)} (S : Hs B M H) (h : ∀ c ∈ M', c ∈ M) (nd : (M'.map (·.1)).Nodup) : Hs B M' H := ⟨S.ex, fun c hc => S.cel c (h c hc), nd⟩
/-- the j-th cell comes first -/
theorem Hs.first (S : Hs B M H) (i : Nat) {c : Addr × HO} (h : M[i]? = some c := by rfl) : Hs B (c :: M.eraseIdx i) H := by
  obtain ⟨p, o⟩ := c
  refine S.sub (fun c hc => ?_) ?_
  · rcases List.mem_cons.mp hc with e | hm
    · subst e
      exact List.mem_of_getElem? h
    · exact List.mem_of_mem_eraseIdx hm
  · refine List.nodup_cons.mpr ⟨fun hm => ?_, nodup_erase S.nd⟩
    obtain ⟨c, hc, e⟩ := List.mem_map.mp hm
    exact (mem_erase_nd S.nd h c hc).2 e
/-- the still part grows by what the cells do not hold -/
theorem Hs.less {B0 : Hp} (S : Hs B M H) (e : Same B0 B) : Hs B0 M H := ⟨e.trans S.ex, fun c hc => ⟨e.free (S.cel c hc).1, (S.cel c hc).2⟩, S.nd⟩
end

/-! ### data that stands -/
section
variable {H H' : Hp}
abbrev LV (H : Hp) (p : Addr) (xs : List V) : Prop := H p = some (.lst xs)
abbrev LI (H : Hp) (p : Addr) (ns : List Int) : Prop := H p = some (.lst (ns.map V.int))
def LR (H : Hp) (as : List Addr) (rows : List (List Int)) : Prop := Paired (fun a r => LI H a r) as rows
/-- a list of lists of ints -/
def LL (H : Hp) (p : Addr) (rows : List (List Int)) : Prop := ∃ as : List Addr, H p = some (.lst (as.map V.ref)) ∧ LR H as rows
theorem LR.mono (e : Same H H') : ∀ {as : List Addr} {rows : List (List Int)}, LR H as rows → LR H' as rows
  | _, _, .nil => .nil
  | _, _, .cons r t => .cons (e _ _ r) (LR.mono e t)
theorem LL.mono (e : Same H H') {p : Addr} {rows : List (List Int)} (h : LL H p rows) : LL H' p rows := by
  obtain ⟨as, h1, h2⟩ := h
  exact ⟨as, e _ _ h1, h2.mono e⟩
theorem LR.length {as : List Addr} {rows : List (List Int)} (h : LR H as rows) : as.length = rows.length := Paired.length h
theorem LR.snoc : ∀ {as : List Addr} {rows : List (List Int)} {a : Addr} {r : List Int}, LR H as rows → LI H a r → LR H (as ++ [a]) (rows ++ [r])
  | _, _, _, _, .nil, h => .cons h .nil
  | _, _, _, _, .cons r t, h => .cons r (LR.snoc t h)
theorem LR.get : ∀ {as : List Addr} {rows : List (List Int)} {i : Nat} {r : List Int}, LR H as rows → rows[i]? = some r → ∃ a, as[i]? = some a ∧ LI H a r
  | _, _, _, _, .nil, e => by simp at e
  | _, _, 0, r, .cons h t, e => by simp at e; subst e; exact ⟨_, rfl, h⟩
  | _, _, i + 1, r, .cons h t, e => by
    obtain ⟨a, h1, h2⟩ := LR.get (i := i) t (by simpa using e)
    exact ⟨a, by simpa using h1, h2⟩
theorem LR.set : ∀ {as : List Addr} {rows : List (List Int)} {i : Nat} {a : Addr} {r : List Int}, LR H as rows → LI H a r → LR H (as.set i a) (rows.set i r)
  | _, _, _, _, _, .nil, _ => .nil
  | _, _, 0, _, _, .cons _ t, h => .cons h t
  | _, _, i + 1, _, _, .cons q t, h => .cons q (LR.set t h)
variable {K : PySem.W.Frag}
theorem sqL_of {p : Addr} {xs : List V} (h : H p = some (.lst xs)) : SqL K H p xs := .inl (.inl h)
theorem sqT_of {p : Addr} {xs : List V} (h : H p = some (.tup xs)) : SqT K H p xs := .inl (.inl h)
end

/-! ### calls by their promises -/
structure Cal (P : Program) (w : World) (K : PySem.W.Frag) (mg : Str → Option Value) (base : Heap) (x : Str) (k : Nat) (ps : List Str) (sp : Sp) : Prop where
  ex : ∃ (f : Addr) (fd : FuncData), mg x = some (.ref f) ∧ PySem.W.keepIn K (.ref f) = true ∧ Binds K fd ps [] ∧ FnOk P w K mg base CX0 k f fd ps sp ∧ ∃ (oc : Value) (od : Option Addr) (osl : Array (Option Value)), K.lookup f = some ⟨oc, od, .func fd, osl⟩
/-- where a def of the top stands -/
structure Glo (K : PySem.W.Frag) (mg : Str → Option Value) (x : Str) (st : Stmt) : Prop where
  ex : ∃ (f : Addr) (fd : FuncData), mg x = some (.ref f) ∧ Fun K x x st f fd
section
variable {P : Program} {w : World} {K : PySem.W.Frag} {mg : Str → Option Value} {base : Heap} {x : Str} {st : Stmt} {k j : Nat} {ps N : List Str} {sp : Sp}
theorem Cal.mono (C : Cal P w K mg base x j ps sp) (h : j ≤ k) : Cal P w K mg base x k ps sp := by
  obtain ⟨f, fd, h1, h2, h3, h4, h5⟩ := C.ex
  exact ⟨f, fd, h1, h2, h3, h4.mono h, h5⟩
/-- a def of the top keeps its promise -/
theorem Glo.cal (G : Glo K mg x st) (S : FnScope N ps (defScope st)) (bn : ∀ (kV doc pm : Value) (an : Option Addr) (cdv ct : Value) (us : List Value), us.length = ps.length → bindArgs (PySem.W.fnOf x x (defArgs st) (defBody st) (defScope st) .none kV doc pm an cdv ct) ⟨us, []⟩ = pure (ps.zip us))
    (len : ∀ (vs : List V) (H : Hp) (Q : VK) (E : XK), sp vs H Q E → vs.length = ps.length)
    (hbody : ∀ (f : Addr) (cdv : Value) (A : Around) (outer : List Env) (s : Shared) (H : Hp) (vs : List V) (Q : VK) (E : XK), Room k (A.deeper (envOfC x (defScope st) s.heap.objs.size f cdv)) → sp vs H Q E →
      ∃ t, PSs (cxOf CX0 P w K mg base N x (defScope st) f cdv A outer s H E).nox (defBody st) t ∧ t { nx := fun _ H' => Q .non H', rt := Q } (start N vs) H) : Cal P w K mg base x (k + 1) ps sp := by
  obtain ⟨f, fd, h1, F⟩ := G.ex
  refine ⟨f, fd, h1, F.kp, F.binds bn, F.ok S len (fun cdv A outer s H vs Q E hr h => hbody f cdv A outer s H vs Q E hr h), ?_⟩
  obtain ⟨oc, od, kV, doc, pm, an, cdv, ct, osl, _, lk, _⟩ := F.ex
  exact ⟨oc, od, osl, lk⟩
end
section
variable {X : Cx} {x : Str} {k : Nat} {ps : List Str} {sp : Sp} {e : Expr} {es : List Expr} {t : TA} {p pos : Pos}
theorem pe_cal (C : Cal X.prog X.w X.K X.mg X.base x k ps sp) (hr : Room k X.A) (hg : Gl X x) (ha : PA X (e :: es) t) (hdb : (x == ("__debug__" : Str)) = false := by decide) (he : starEach (e :: es) X.env = (false, eval e X.env) :: starEach es X.env := by rfl) (hpl : (backTo pos (starEach es X.env)).any (·.1) = false := by rfl) : PE X (.Call (.Name x p) (e :: es) [] pos) (tCall sp [] E0 t) := by
  obtain ⟨f, fd, h1, h2, h3, h4, _⟩ := C.ex
  exact pe_call h4 hr hg h1 h2 h3 .nil pass0 ha hdb he hpl
end
end Rw

namespace Rw
open PySem PySem.Spec PyProof.Rows L2
/-! ### steps of a reading -/
section
variable {K : PySem.W.Frag} {σ : L2.St} {H : Hp} {Q : VK} {v : V} {i : Nat} {ta tb tc te : TE} {r : R2} {D : Ends} {B : Hp} {M : List (Addr × HO)} {p : Addr} {xs : List V}
theorem w_var (h : σ[i]? = some (some v)) (k : Q v H) : tVar i σ H Q := ⟨v, h, k⟩
theorem w_c (k : Q v H) : tC v σ H Q := k
theorem w_op (k : ta σ H fun x H1 => tb σ H1 fun y H2 => r x y H2 Q) : tOp r ta tb σ H Q := k
theorem w_un {r : V → Hp → VK → Prop} (k : ta σ H fun x H1 => r x H1 Q) : tUn r ta σ H Q := k
theorem w_rU {g : Int → V} {i : Int} (k : Q (g i) H) : rU g (.int i) H Q := ⟨i, rfl, k⟩
theorem w_rI0 {g : Int → Int → V} {i j : Int} (k : Q (g i j) H) : rI0 g (.int i) (.int j) H Q := ⟨i, j, rfl, rfl, k⟩
theorem w_mod {i j : Int} (h : 0 < j) (k : Q (.int (i % j)) H) : rI (fun _ j => 0 < j) (fun i j => .int (i % j)) (.int i) (.int j) H Q := ⟨i, j, rfl, rfl, h, k⟩
theorem w_mul {i j : Int} (h : CMul i j) (k : Q (.int (i * j)) H) : rI CMul (fun i j => .int (i * j)) (.int i) (.int j) H Q := ⟨i, j, rfl, rfl, h, k⟩
theorem w_div {i j : Int} (h : CDiv i j) (k : Q (.int (i / j)) H) : rI CDiv (fun i j => .int (i / j)) (.int i) (.int j) H Q := ⟨i, j, rfl, rfl, h, k⟩
theorem w_seq {t u : TS} (k : t { D with nx := u D } σ H) : tSeq t u D σ H := k
theorem w_asg {g : TG} (k : te σ H fun x H1 => g x σ H1 D.nx) : tAsg te g D σ H := k
theorem w_name {v : V} {R : L2.St → Hp → Prop} (k : R (σ.set i (some v)) H) : gName i v σ H R := k
theorem w_drop (k : te σ H fun _ H1 => D.nx σ H1) : tDrop te D σ H := k
theorem w_ret (k : te σ H D.rt) : tRet te D σ H := k
theorem w_next (k : D.nx σ H) : tNext D σ H := k
theorem w_ifS {c : TT} {t u : TS} (k : c σ H fun b H1 => if b = true then t D σ H1 else u D σ H1) : tIfS c t u D σ H := k
theorem w_if {c : TT} (k : c σ H fun b H1 => if b = true then ta σ H1 Q else tb σ H1 Q) : tIf c ta tb σ H Q := k
def BlX (x : V) (H : Hp) (R : Bool → Hp → Prop) : Prop := ∃ k, x = .bl k ∧ R k H
theorem w_test {R : Bool → Hp → Prop} (k : te σ H fun x H' => BlX x H' R) : tTest te σ H R := k
theorem w_B {R : Bool → Hp → Prop} (k : te σ H fun x H' => BlX x H' R) : tB te σ H R := k
theorem w_bl {R : Bool → Hp → Prop} {b : Bool} (k : R b H) : BlX (.bl b) H R := ⟨b, rfl, k⟩
theorem w_not {t : TT} {R : Bool → Hp → Prop} (k : t σ H fun c H1 => R (!c) H1) : tNot t σ H R := k
theorem w_and {t u : TT} {R : Bool → Hp → Prop} (k : t σ H fun c H1 => if c = true then u σ H1 R else R false H1) : tAnd t u σ H R := k
theorem w_or {t u : TT} {R : Bool → Hp → Prop} (k : t σ H fun c H1 => if c = true then R true H1 else u σ H1 R) : tOr t u σ H R := k
theorem w_nil {R : List V → Hp → Prop} (k : R [] H) : tNil σ H R := k
theorem w_cons {tr : TA} {R : List V → Hp → Prop} (k : ta σ H fun x H1 => tr σ H1 fun xs H2 => R (x :: xs) H2) : tCons ta tr σ H R := k
theorem w_call {sp : Sp} {dvs : List V} {E : XK} {t : TA} (k : t σ H fun vs H1 => sp (vs ++ dvs) H1 Q E) : tCall sp dvs E t σ H Q := k
theorem w_cb {r : List V → Hp → VK → Prop} {t : TA} (k : t σ H fun vs H1 => r vs H1 Q) : tCB r t σ H Q := k
theorem w_bm0 {T : String} {r : V → List V → Hp → VK → Prop} (k : ta σ H fun x H1 => tyV K T x H1 ∧ r x [] H1 Q) : tBM0 K T r ta σ H Q := k
theorem w_bm {T : String} {r : V → List V → Hp → VK → Prop} {t : TA} (k : ta σ H fun x H1 => tyV K T x H1 ∧ t σ H1 fun xs H2 => r x xs H2 Q) : tBM K T r ta t σ H Q := k
/-- a new list, a new tuple -/
def newL (xs : List V) (H : Hp) (Q : VK) : Prop := xs.length ≤ sizeLine ∧ ∀ p, H p = none → Q (.ref p) (upd H p (.lst xs))
def newT (xs : List V) (H : Hp) (Q : VK) : Prop := xs.length ≤ sizeLine ∧ ∀ p, H p = none → Q (.ref p) (upd H p (.tup xs))
theorem w_tlst {t : TA} (k : t σ H fun xs H1 => newL xs H1 Q) : tLst t σ H Q := k
theorem w_ttup {t : TA} (k : t σ H fun xs H1 => newT xs H1 Q) : tTup t σ H Q := k
theorem w_sub {to ti : TE} {t : TSet} {v : V} {R : L2.St → Hp → Prop} (k : to σ H fun o H1 => ti σ H1 fun i H2 => t o i v H2 fun H3 => R σ H3) : gSub to ti t v σ H R := k
def ForJ (J : It) (g : TG) (tb : TS) (D : Ends) (σ : L2.St) (H : Hp) : Prop := ∃ W : Nat → Nat → L2.St → Hp → Prop, (∃ m, W 0 m σ H) ∧ ∀ i m σ H, W i m σ H →
      (J.stop i H ∧ D.nx σ H) ∨ (J.go i H ∧ ∃ N : L2.St → Hp → Prop, (∀ σ' H', N σ' H' → ∃ m', m' < m ∧ W (i + 1) m' σ' H') ∧ ∀ x H', J.yld i H x H' → g x σ H' fun σ2 H2 => tb { D with nx := N, ct := N, bk := D.nx } σ2 H2)
theorem w_for {wi : TI} {g : TG} {tb : TS} (k : wi σ H fun J H1 => ForJ J g tb D σ H1) : tFor wi g tb D σ H := k
def Rng1 (vs : List V) (H : Hp) (R : It → Hp → Prop) : Prop := ∃ j : Int, vs = [.int j] ∧ -(2 ^ 62) ≤ j ∧ j < 2 ^ 62 ∧ R (Itr 0 j.toNat) H
theorem w_rng1 {ta : TA} {R : It → Hp → Prop} (k : ta σ H fun vs H1 => Rng1 vs H1 R) : iRng1 ta σ H R := k
theorem w_rngE {j : Int} {R : It → Hp → Prop} (h0 : -(2 ^ 62) ≤ j) (h1 : j < 2 ^ 62) (k : R (Itr 0 j.toNat) H) : Rng1 [.int j] H R := ⟨j, rfl, h0, h1, k⟩
def ItL (K : PySem.W.Frag) (v : V) (H : Hp) (R : It → Hp → Prop) : Prop := ∃ a, v = .ref a ∧ (∃ xs, SqL K H a xs) ∧ R (Itl K a) H
def ItT (K : PySem.W.Frag) (v : V) (H : Hp) (R : It → Hp → Prop) : Prop := ∃ a, v = .ref a ∧ (∃ xs, SqT K H a xs) ∧ R (Itt K a) H
def ItE (K : PySem.W.Frag) (vs : List V) (H : Hp) (R : It → Hp → Prop) : Prop := ∃ a xs, vs = [.ref a] ∧ SqL K H a xs ∧ R (Ite K a) H
def ItZ (K : PySem.W.Frag) (vs : List V) (H : Hp) (R : It → Hp → Prop) : Prop := ∃ a b xs ys, vs = [.ref a, .ref b] ∧ SqL K H a xs ∧ SqL K H b ys ∧ R (Itz K a b) H
theorem w_iL {R : It → Hp → Prop} (k : ta σ H fun x H1 => ItL K x H1 R) : iList K ta σ H R := k
theorem w_iT {R : It → Hp → Prop} (k : ta σ H fun x H1 => ItT K x H1 R) : iTup K ta σ H R := k
theorem w_iE {ta : TA} {R : It → Hp → Prop} (k : ta σ H fun x H1 => ItE K x H1 R) : iEnum K ta σ H R := k
theorem w_iZ {ta : TA} {R : It → Hp → Prop} (k : ta σ H fun x H1 => ItZ K x H1 R) : iZip K ta σ H R := k
theorem w_iLE {R : It → Hp → Prop} (h : SqL K H p xs) (k : R (Itl K p) H) : ItL K (.ref p) H R := ⟨p, rfl, ⟨_, h⟩, k⟩
theorem w_iTE {R : It → Hp → Prop} (h : SqT K H p xs) (k : R (Itt K p) H) : ItT K (.ref p) H R := ⟨p, rfl, ⟨_, h⟩, k⟩
theorem w_iEE {R : It → Hp → Prop} (h : SqL K H p xs) (k : R (Ite K p) H) : ItE K [.ref p] H R := ⟨p, _, rfl, h, k⟩
theorem w_iZE {q : Addr} {ys : List V} {R : It → Hp → Prop} (h : SqL K H p xs) (h2 : SqL K H q ys) (k : R (Itz K p q) H) : ItZ K [.ref p, .ref q] H R := ⟨p, q, _, _, rfl, h, h2, k⟩
/-- a comprehension -/
def LcJ (J : It) (g : TG) (tt : TT) (te : TE) (vs : List Nat) (σ : L2.St) (H : Hp) (Q : VK) : Prop := ∀ D, H D = none → ∃ W : Nat → Nat → Hp → Prop, (∃ m, W 0 m (upd H D (.lst []))) ∧ ∀ i m H, W i m H →
  (J.stop i H ∧ Q (.ref D) H) ∨
  (J.go i H ∧ ∃ on : Hp → Prop, (∀ H', on H' → ∃ m', m' < m ∧ W (i + 1) m' H') ∧ ∀ x H', J.yld i H x H' →
    g x (wipe σ vs) H' fun s2 H2 => wipe s2 vs = wipe σ vs ∧ tt s2 H2 fun b H3 =>
      if b = true then te s2 H3 fun y H4 => ∃ made, H4 D = some (.lst made) ∧ made.length < sizeLine ∧ on (upd H4 D (.lst (made ++ [y]))) else on H3)
theorem w_lc {wi : TI} {g : TG} {tt : TT} {vs : List Nat} (k : wi σ H fun J H1 => LcJ J g tt te vs σ H1 Q) : tLc wi g tt te vs σ H Q := k
theorem w_yes {R : Bool → Hp → Prop} (k : R true H) : tYes σ H R := k
/-- a pair's parts to their names -/
theorem w_gtup {n : Nat} {t : TGs} {R : L2.St → Hp → Prop} (h : SqT K H p xs) (hn : xs.length = n) (k : t xs σ H R) : gTup K n t (.ref p) σ H R := ⟨p, xs, rfl, h, hn, k⟩
theorem w_gcons {t : TG} {u : TGs} {x : V} {R : L2.St → Hp → Prop} (k : t x σ H fun σ' H' => u xs σ' H' R) : gCons t u (x :: xs) σ H R := ⟨x, xs, rfl, k⟩
theorem w_gnil {R : L2.St → Hp → Prop} (k : R σ H) : gNil [] σ H R := ⟨rfl, k⟩
theorem w_lst (S : Hs B M H) (hl : xs.length ≤ sizeLine) (k : ∀ p H', Hs B ((p, .lst xs) :: M) H' → Q (.ref p) H') : newL xs H Q := ⟨hl, fun p hp => k p _ (S.new hp _)⟩
theorem w_tup (S : Hs B M H) (hl : xs.length ≤ sizeLine) (k : ∀ p H', Hs B ((p, .tup xs) :: M) H' → Q (.ref p) H') : newT xs H Q := ⟨hl, fun p hp => k p _ (S.new hp _)⟩
/-- an item of a list -/
theorem w_ixL {j : Int} (h : SqL K H p xs) (ha : atI xs j = some v) (k : Q v H) : rIxL K (.ref p) (.int j) H Q := ⟨p, xs, j, v, rfl, rfl, h, ha, k⟩
theorem w_ixT {j : Int} (h : SqT K H p xs) (ha : atI xs j = some v) (k : Q v H) : rIxT K (.ref p) (.int j) H Q := ⟨p, xs, j, v, rfl, rfl, h, ha, k⟩
theorem tyL (h : SqL K H p xs) : tyV K "list" (.ref p) H := .inl ⟨rfl, _, h⟩
/-- append to a cell -/
theorem w_append {y : V} (S : Hs B M H) (i : Nat) (h : M[i]? = some (p, .lst xs)) (hl : xs.length < sizeLine) (k : ∀ H', Hs B (M.set i (p, .lst (xs ++ [y]))) H' → Q .non H') : rAppend (.ref p) [y] H Q :=
  ⟨p, xs, y, rfl, rfl, S.get i h, hl, k _ (S.put i _ h)⟩
/-- an item's store -/
theorem w_setL {j : Int} {n : Nat} {R : Hp → Prop} (S : Hs B M H) (i : Nat) (h : M[i]? = some (p, .lst xs)) (hj : ixN xs.length j = some n) (k : ∀ H', Hs B (M.set i (p, .lst (xs.set n v))) H' → R H') : rSetL (.ref p) (.int j) v H R :=
  ⟨p, xs, j, n, rfl, rfl, S.get i h, hj, k _ (S.put i _ h)⟩
/-- len -/
def rLenX (K : PySem.W.Frag) : List V → Hp → VK → Prop := fun xs H Q => ∃ x n, xs = [x] ∧ LenV K x H n ∧ Q (.int (n : Nat)) H
theorem w_len {xs : List V} (h : SqL K H p xs) (k : Q (.int (xs.length : Nat)) H) : rLenX K [.ref p] H Q := ⟨_, _, rfl, .inl ⟨_, h, rfl⟩, k⟩
theorem w_lenT {xs : List V} (h : SqT K H p xs) (k : Q (.int (xs.length : Nat)) H) : rLenX K [.ref p] H Q := ⟨_, _, rfl, .inr ⟨_, h, rfl⟩, k⟩
/-- list(..), tuple(..) -/
def rListX (K : PySem.W.Frag) : List V → Hp → VK → Prop := fun xs H Q => ∃ p ys, xs = [.ref p] ∧ (SqL K H p ys ∨ SqT K H p ys) ∧ ∀ l, H l = none → Q (.ref l) (upd H l (.lst ys))
theorem w_listL (S : Hs B M H) (h : SqL K H p xs) (k : ∀ q H', Hs B ((q, .lst xs) :: M) H' → Q (.ref q) H') : rListX K [.ref p] H Q := ⟨p, xs, rfl, .inl h, fun l hl => k l _ (S.new hl _)⟩
theorem w_listT (S : Hs B M H) (h : SqT K H p xs) (k : ∀ q H', Hs B ((q, .lst xs) :: M) H' → Q (.ref q) H') : rListX K [.ref p] H Q := ⟨p, xs, rfl, .inr h, fun l hl => k l _ (S.new hl _)⟩
def rTupX (K : PySem.W.Frag) : List V → Hp → VK → Prop := fun xs H Q => ∃ p ys, xs = [.ref p] ∧ ((SqL K H p ys ∧ ∀ l, H l = none → Q (.ref l) (upd H l (.tup ys))) ∨ (SqT K H p ys ∧ Q (.ref p) H))
theorem w_tupL (S : Hs B M H) (h : SqL K H p xs) (k : ∀ q H', Hs B ((q, .tup xs) :: M) H' → Q (.ref q) H') : rTupX K [.ref p] H Q := ⟨p, xs, rfl, .inl ⟨h, fun l hl => k l _ (S.new hl _)⟩⟩
def rMax2X : List V → Hp → VK → Prop := fun xs H Q => ∃ i j, xs = [.int i, .int j] ∧ Q (.int (if j > i then j else i)) H
theorem w_max2 {i j : Int} (k : Q (.int (if j > i then j else i)) H) : rMax2X [.int i, .int j] H Q := ⟨i, j, rfl, k⟩
/-- all, any, sum of what stands in a list -/
theorem w_all {bs : List Bool} (h : SqL K H p (bs.map V.bl)) (k : Q (.bl (bs.all id)) H) : rAll K [.ref p] H Q := ⟨p, bs, rfl, h, k⟩
theorem w_sum {ns : List Int} (h : SqL K H p (ns.map V.int)) (k : Q (.int ns.sum) H) : rSum K [.ref p] H Q := ⟨p, ns, rfl, h, k⟩
/-- x in xs -/
theorem w_inL {neg : Bool} {x : V} (h : SqL K H p xs) (hx : flatV x = true) (ha : xs.all flatV = true) (k : Q (.bl (if neg then !inV x xs else inV x xs)) H) : rIn K neg x (.ref p) H Q := ⟨p, xs, rfl, .inl h, hx, ha, k⟩
theorem w_inT {neg : Bool} {x : V} (h : SqT K H p xs) (hx : flatV x = true) (ha : xs.all flatV = true) (k : Q (.bl (if neg then !inV x xs else inV x xs)) H) : rIn K neg x (.ref p) H Q := ⟨p, xs, rfl, .inr h, hx, ha, k⟩
/-- == -/
theorem w_eqS {x y : V} (h : scal x y = true) (k : Q (.bl (decide (x = y))) H) : rEq x y H Q := ⟨h, k⟩
theorem w_neS {x y : V} (h : scal x y = true) (k : Q (.bl (!decide (x = y))) H) : rNe x y H Q := ⟨h, k⟩
theorem w_eqD {x y : V} {d e : PyData} (hd : Dp K H x d) (he : Dp K H y e) (sd : SeqAt.shaped d = true) (se : SeqAt.shaped e = true) (k : Q (.bl (PyData.eqv d e)) H) : rEqD K x y H Q := ⟨d, e, hd, he, sd, se, k⟩
theorem w_neD {x y : V} {d e : PyData} (hd : Dp K H x d) (he : Dp K H y e) (sd : SeqAt.shaped d = true) (se : SeqAt.shaped e = true) (k : Q (.bl (!PyData.eqv d e)) H) : rNeD K x y H Q := ⟨d, e, hd, he, sd, se, k⟩
/-- xs + ys, xs * n, xs[a:b] -/
theorem w_cat {q : Addr} {ys : List V} (S : Hs B M H) (h : H p = some (.lst xs)) (h2 : H q = some (.lst ys)) (hl : xs.length + ys.length ≤ sizeLine) (k : ∀ z H', Hs B ((z, .lst (xs ++ ys)) :: M) H' → Q (.ref z) H') : rCat (.ref p) (.ref q) H Q :=
  ⟨p, q, xs, ys, rfl, rfl, h, h2, hl, fun z hz => k z _ (S.new hz _)⟩
theorem w_rep {n : Int} (S : Hs B M H) (h : H p = some (.lst xs)) (h0 : -(2 ^ 63) ≤ n) (h1 : n < 2 ^ 63) (hl : xs.length * n.toNat ≤ sizeLine) (k : ∀ z H', Hs B ((z, .lst (List.replicate n.toNat xs).flatten) :: M) H' → Q (.ref z) H') : rRep (.ref p) (.int n) H Q :=
  ⟨p, n, xs, rfl, rfl, h, h0, h1, hl, fun z hz => k z _ (S.new hz _)⟩
theorem w_slice {lo hi : Option Int} (S : Hs B M H) (h : SqL K H p xs) (k : ∀ z H', Hs B ((z, .lst (cutV xs lo hi)) :: M) H' → Q (.ref z) H') : rSlL K (.ref p) lo hi H Q := ⟨p, xs, rfl, h, fun z hz => k z _ (S.new hz _)⟩
theorem w_sl {r : V → Option Int → Option Int → Hp → VK → Prop} {tl th : TO} (k : te σ H fun x H1 => tl σ H1 fun l H2 => th σ H2 fun u H3 => r x l u H3 Q) : tSl r te tl th σ H Q := k
def PartI (v : V) (H : Hp) (R : Option Int → Hp → Prop) : Prop := ∃ i, v = .int i ∧ R (some i) H
theorem w_part {R : Option Int → Hp → Prop} (k : te σ H fun x H1 => PartI x H1 R) : tPart te σ H R := k
theorem w_partI {i : Int} {R : Option Int → Hp → Prop} (k : R (some i) H) : PartI (.int i) H R := ⟨i, rfl, k⟩
theorem w_nopart {R : Option Int → Hp → Prop} (k : R none H) : tNoPart σ H R := k
/-- methods of a cell that is a list -/
theorem w_pop {y : V} (S : Hs B M H) (i : Nat) (h : M[i]? = some (p, .lst xs)) (hy : xs[xs.length - 1]? = some y) (k : ∀ H', Hs B (M.set i (p, .lst xs.dropLast)) H' → Q y H') : rPop (.ref p) [] H Q := ⟨p, xs, y, rfl, rfl, S.get i h, hy, k _ (S.put i _ h)⟩
theorem w_popAt {y : V} {j : Int} {n : Nat} (S : Hs B M H) (i : Nat) (h : M[i]? = some (p, .lst xs)) (h0 : -(2 ^ 63) ≤ j) (h1 : j < 2 ^ 63) (hn : seqIndex? j xs.length = some n) (hy : xs[n]? = some y) (k : ∀ H', Hs B (M.set i (p, .lst (xs.eraseIdx n))) H' → Q y H') : rPopAt (.ref p) [.int j] H Q :=
  ⟨p, xs, j, n, y, rfl, rfl, S.get i h, h0, h1, hn, hy, k _ (S.put i _ h)⟩
theorem w_clear (S : Hs B M H) (i : Nat) (h : M[i]? = some (p, .lst xs)) (k : ∀ H', Hs B (M.set i (p, .lst [])) H' → Q .non H') : rClear (.ref p) [] H Q := ⟨p, xs, rfl, rfl, S.get i h, k _ (S.put i _ h)⟩
def rInsX : V → List V → Hp → VK → Prop := fun x vs H Q => ∃ (l : Addr) (xs : List V) (i : Int) (y : V), x = .ref l ∧ vs = [.int i, y] ∧ H l = some (.lst xs) ∧ xs.length < sizeLine ∧ 0 ≤ i ∧ i < 2 ^ 63 ∧ Q .non (upd H l (.lst (xs.take i.toNat ++ [y] ++ xs.drop i.toNat)))
theorem w_insert {y : V} {j : Int} (S : Hs B M H) (i : Nat) (h : M[i]? = some (p, .lst xs)) (hl : xs.length < sizeLine) (h0 : 0 ≤ j) (h1 : j < 2 ^ 63) (k : ∀ H', Hs B (M.set i (p, .lst (xs.take j.toNat ++ [y] ++ xs.drop j.toNat))) H' → Q .non H') : rInsX (.ref p) [.int j, y] H Q :=
  ⟨p, xs, j, y, rfl, rfl, S.get i h, hl, h0, h1, k _ (S.put i _ h)⟩
theorem w_lcount {ns : List Int} {j : Int} (h : SqL K H p (ns.map V.int)) (k : Q (.int (ns.count j : Nat)) H) : rCntI K (.ref p) [.int j] H Q := ⟨p, ns, j, rfl, rfl, h, k⟩
/-- type(x) is T -/
theorem w_typ {x : V} {T : String} (h : TyB K H x T) (k : Q (.ty T) H) : rTyp K [x] H Q := ⟨x, T, rfl, h, k⟩
def rIsTX : R2 := fun x y H Q => ∃ a b, x = .ty a ∧ y = .ty b ∧ Q (.bl (decide (a = b))) H
theorem w_isT {a b : String} (k : Q (.bl (decide (a = b))) H) : rIsTX (.ty a) (.ty b) H Q := ⟨a, b, rfl, rfl, k⟩
theorem w_notT {a b : String} (k : Q (.bl (!decide (a = b))) H) : rNT (.ty a) (.ty b) H Q := ⟨a, b, rfl, rfl, k⟩
def rIsBX : R2 := fun x y H Q => ∃ a b, x = .bl a ∧ y = .bl b ∧ Q (.bl (decide (a = b))) H
def rNotBX : R2 := fun x y H Q => ∃ a b, x = .bl a ∧ y = .bl b ∧ Q (.bl (!decide (a = b))) H
theorem w_isB {a b : Bool} (k : Q (.bl (decide (a = b))) H) : rIsBX (.bl a) (.bl b) H Q := ⟨a, b, rfl, rfl, k⟩
theorem w_notB {a b : Bool} (k : Q (.bl (!decide (a = b))) H) : rNotBX (.bl a) (.bl b) H Q := ⟨a, b, rfl, rfl, k⟩
def rIsNX : R2 := fun x y H Q => y = .non ∧ Q (.bl (decide (x = .non))) H
def rNotNX : R2 := fun x y H Q => y = .non ∧ Q (.bl (!decide (x = .non))) H
theorem w_isN {x : V} (k : Q (.bl (decide (x = .non))) H) : rIsNX x .non H Q := ⟨rfl, k⟩
theorem w_notN {x : V} (k : Q (.bl (!decide (x = .non))) H) : rNotNX x .non H Q := ⟨rfl, k⟩
/-- isinstance -/
theorem w_isi {x c : V} {t u : Value} {b : Bool} (hc : ClsV c u) (ht : TyX K H x t) (e : PySem.W.kitOne K t u = some b) (k : Q (.bl b) H) : rIsi K [x, c] H Q := ⟨x, c, t, u, b, rfl, hc, ht, e, k⟩
/-- a field -/
def FldX (K : PySem.W.Frag) (x : V) (f : Str) (H : Hp) (Q : VK) : Prop := ∃ a C dx fs v, x = .ref a ∧ H a = some (.ins C dx fs) ∧ Cls K C ∧ NoAttr K C f ∧ fs.lookup f = some v ∧ Q v H
theorem w_fld {f : Str} (k : ta σ H fun x H1 => FldX K x f H1 Q) : tFld K ta f σ H Q := k
theorem w_fldE {C dx : Addr} {fs : List (Str × V)} {f : Str} (h : H p = some (.ins C dx fs)) (c : Cls K C) (n : NoAttr K C f) (hv : fs.lookup f = some v) (k : Q v H) : FldX K (.ref p) f H Q := ⟨p, C, dx, fs, v, rfl, h, c, n, hv, k⟩
theorem w_par {i j : Nat} {ta : TA} {R : List V → Hp → Prop} (k : ta σ H fun vs H1 => ∃ v w, vs = [v, w] ∧ D.nx ((σ.set i (some v)).set j (some w)) H1) : tPar i j ta D σ H := k
theorem w_parE {i j : Nat} {v w : V} (k : D.nx ((σ.set i (some v)).set j (some w)) H) : ∃ v' w', [v, w] = [v', w'] ∧ D.nx ((σ.set i (some v')).set j (some w')) H := ⟨v, w, rfl, k⟩
def ChainX (r r' : R2) (x y : V) (tc : TE) (σ : L2.St) (H : Hp) (Q : VK) : Prop := r x y H fun z H3 => ∃ k, z = .bl k ∧ if k = true then tc σ H3 fun u H4 => r' y u H4 Q else Q (.bl false) H3
end
section
variable {X : Cx}
theorem call_lenX : CallR X (.builtin "len") (rLenX X.K) := call_len
theorem call_listX : CallR X (.type "list") (rListX X.K) := call_list_of
theorem call_tupX : CallR X (.type "tuple") (rTupX X.K) := call_tuple_of
theorem call_max2X (hc : X.calm = true) : CallR X (.builtin "max") rMax2X := call_max2 hc
theorem mt_insX : MtR X "list.insert" rInsX := mt_insert
theorem op_isTX : OpR X (compareOp .Is) rIsTX := op_isTyB
theorem op_isBX : OpR X (compareOp .Is) rIsBX := op_is_bl
theorem op_notBX : OpR X (compareOp .IsNot) rNotBX := op_isnot_bl
theorem op_isNX : OpR X (compareOp .Is) rIsNX := op_isN
theorem op_notNX : OpR X (compareOp .IsNot) rNotNX := op_notN
end
theorem len_ok {α : Type} {xs : List α} (h : xs.length ≤ 1000) : xs.length ≤ sizeLine := by
  have := sizeLine_eq
  omega
theorem len_lt {α : Type} {xs : List α} (h : xs.length ≤ 1000) : xs.length < sizeLine := by
  have := sizeLine_eq
  omega
theorem small {n m : Nat} (h : n ≤ m) (hm : m < 16777216 := by decide) : n < sizeLine := by
  have := sizeLine_eq
  omega
theorem small' {n m : Nat} (h : n ≤ m) (hm : m ≤ 16777216 := by decide) : n ≤ sizeLine := by
  have := sizeLine_eq
  omega
end Rw

namespace Rw
open PySem PySem.Spec PyProof.Rows L2
section
variable {K : PySem.W.Frag} {σ : L2.St} {H : Hp} {Q : VK} {D : Ends} {g : TG} {tb : TS} {a b : Addr} {xs ys : List V} {tt : TT} {te : TE} {vs : List Nat}
/-- for i in range(n) -/
theorem for_rng {n : Nat} (Pv : Nat → L2.St → Hp → Prop) (h0 : Pv 0 σ H)
    (hs : ∀ (i : Nat) (σ : L2.St) (H : Hp), i < n → Pv i σ H → g (.int (i : Int)) σ H fun σ2 H2 => tb { D with nx := Pv (i + 1), ct := Pv (i + 1), bk := D.nx } σ2 H2) (hd : ∀ σ H, Pv n σ H → D.nx σ H) : ForJ (Itr 0 n) g tb D σ H :=
  for_range (lo := 0) Pv h0 (fun i σ H hi h => by rw [Int.zero_add]; exact hs i σ H hi h) hd
theorem for_lst (Pv : Nat → L2.St → Hp → Prop) (h0 : Pv 0 σ H) (hl : ∀ i σ H, i ≤ xs.length → Pv i σ H → SqL K H a xs)
    (hs : ∀ (i : Nat) (x : V) (σ : L2.St) (H : Hp), xs[i]? = some x → Pv i σ H → g x σ H fun σ2 H2 => tb { D with nx := Pv (i + 1), ct := Pv (i + 1), bk := D.nx } σ2 H2) (hd : ∀ σ H, Pv xs.length σ H → D.nx σ H) : ForJ (Itl K a) g tb D σ H := for_list Pv h0 hl hs hd
theorem for_tpl (Pv : Nat → L2.St → Hp → Prop) (h0 : Pv 0 σ H) (hl : ∀ i σ H, i ≤ xs.length → Pv i σ H → SqT K H a xs)
    (hs : ∀ (i : Nat) (x : V) (σ : L2.St) (H : Hp), xs[i]? = some x → Pv i σ H → g x σ H fun σ2 H2 => tb { D with nx := Pv (i + 1), ct := Pv (i + 1), bk := D.nx } σ2 H2) (hd : ∀ σ H, Pv xs.length σ H → D.nx σ H) : ForJ (Itt K a) g tb D σ H := for_tup Pv h0 hl hs hd
/-- for i, x in enumerate(xs) -/
theorem for_enu (Pv : Nat → L2.St → Hp → Prop) (h0 : Pv 0 σ H) (hl : ∀ i σ H, i ≤ xs.length → Pv i σ H → SqL K H a xs)
    (hs : ∀ (i : Nat) (x : V) (σ : L2.St) (H : Hp) (T : Addr), xs[i]? = some x → Pv i σ H → H T = none → g (.ref T) σ (upd H T (.tup [.int (i : Int), x])) fun σ2 H2 => tb { D with nx := Pv (i + 1), ct := Pv (i + 1), bk := D.nx } σ2 H2) (hd : ∀ σ H, Pv xs.length σ H → D.nx σ H) : ForJ (Ite K a) g tb D σ H :=
  for_it walk_enum Pv h0 hl (fun i x σ H H' hi h y => by
    obtain ⟨T, u, z, rfl, h2, rfl, e1, e2⟩ := y
    cases e1
    exact hs i z σ H T e2 h h2) hd
end
end Rw

namespace Rw
open PySem PySem.Spec PyProof.Rows L2
section
variable {K : PySem.W.Frag} {σ : L2.St} {H : Hp} {Q : VK} {D : Ends} {B : Hp} {M : List (Addr × HO)} {p : Addr} {xs : List V} {ta tb tc te : TE} {v : V} {r r' : R2}
theorem iteP {c A Z : Prop} [Decidable c] (hc : c) (h : A) : if decide c = true then A else Z := by rw [decide_eq_true hc]; exact iteT h
theorem iteN {c A Z : Prop} [Decidable c] (hc : ¬ c) (h : Z) : if decide c = true then A else Z := by rw [decide_eq_false hc]; exact iteF h
theorem ite3 {c A Z : Prop} [Decidable c] (h1 : c → A) (h2 : ¬ c → Z) : if decide c = true then A else Z := by
  by_cases h : c
  · exact iteP h (h1 h)
  · exact iteN h (h2 h)
/-- and, or, not as values -/
def AndX (x : V) (tb : TE) (σ : L2.St) (H : Hp) (Q : VK) : Prop := ∃ c, x = .bl c ∧ if c = true then tb σ H Q else Q (.bl false) H
def OrX (x : V) (tb : TE) (σ : L2.St) (H : Hp) (Q : VK) : Prop := ∃ c, x = .bl c ∧ if c = true then Q (.bl true) H else tb σ H Q
theorem w_andV (k : ta σ H fun x H1 => AndX x tb σ H1 Q) : tAndV ta tb σ H Q := k
theorem w_orV (k : ta σ H fun x H1 => OrX x tb σ H1 Q) : tOrV ta tb σ H Q := k
theorem w_andE {c : Bool} (k : if c = true then tb σ H Q else Q (.bl false) H) : AndX (.bl c) tb σ H Q := ⟨c, rfl, k⟩
theorem w_orE {c : Bool} (k : if c = true then Q (.bl true) H else tb σ H Q) : OrX (.bl c) tb σ H Q := ⟨c, rfl, k⟩
def NotX (x : V) (H : Hp) (Q : VK) : Prop := ∃ c, x = .bl c ∧ Q (.bl (!c)) H
theorem w_notV (k : ta σ H fun x H1 => NotX x H1 Q) : tNotV ta σ H Q := k
theorem w_notE {c : Bool} (k : Q (.bl (!c)) H) : NotX (.bl c) H Q := ⟨c, rfl, k⟩
/-- a < b < c -/
theorem w_chain (k : ta σ H fun x H1 => tb σ H1 fun y H2 => ChainX r r' x y tc σ H2 Q) : tChain r r' ta tb tc σ H Q := k
theorem w_chainI {f : Int → Int → Bool} {i j : Int} (k : if f i j = true then tc σ H (fun u H4 => r' (.int j) u H4 Q) else Q (.bl false) H) : ChainX (rI0 fun i j => .bl (f i j)) r' (.int i) (.int j) tc σ H Q := ⟨i, j, rfl, rfl, f i j, rfl, k⟩
/-- a method's call, a class's -/
def MethX (C : Addr) (m : Str) (sp : Sp) (x : V) (t : TA) (σ : L2.St) (H : Hp) (Q : VK) : Prop := ∃ a dx fs, x = .ref a ∧ H a = some (.ins C dx fs) ∧ fs.lookup m = none ∧ t σ H fun vs H2 => sp (x :: (vs ++ [])) H2 Q E0
theorem w_meth {C : Addr} {m : Str} {sp : Sp} {t : TA} (k : ta σ H fun x H1 => MethX C m sp x t σ H1 Q) : tMeth C m sp [] E0 ta t σ H Q := k
theorem w_methE {C dx : Addr} {m : Str} {sp : Sp} {t : TA} {fs : List (Str × V)} (h : H p = some (.ins C dx fs)) (hm : fs.lookup m = none) (k : t σ H fun vs H2 => sp (.ref p :: (vs ++ [])) H2 Q E0) : MethX C m sp (.ref p) t σ H Q := ⟨p, dx, fs, rfl, h, hm, k⟩
def MakeX (C : Addr) (sp : Sp) (vs : List V) (H : Hp) (Q : VK) : Prop := ∀ x dx, H x = none → H dx = none → dx ≠ x → sp (.ref x :: (vs ++ [])) (upd (upd H dx (.own x)) x (.ins C dx [])) (fun v H2 => v = .non ∧ Q (.ref x) H2) E0
theorem w_make {C : Addr} {sp : Sp} {t : TA} (k : t σ H fun vs H1 => MakeX C sp vs H1 Q) : tMake C sp [] E0 t σ H Q := k
theorem w_makeE {C : Addr} {sp : Sp} {vs : List V} (S : Hs B M H) (k : ∀ x dx H', Hs B ((x, .ins C dx []) :: (dx, .own x) :: M) H' → sp (.ref x :: (vs ++ [])) H' (fun v H2 => v = .non ∧ Q (.ref x) H2) E0) : MakeX C sp vs H Q := fun x dx hx hd ne =>
  k x dx _ ((S.new hd (.own x)).new (by rw [upd_ne ne.symm]; exact hx) _)
/-- a field's store -/
def SFldX (K : PySem.W.Frag) (y x : V) (f : Str) (D : Ends) (σ : L2.St) (H : Hp) : Prop := ∃ a C dx fs, x = .ref a ∧ H a = some (.ins C dx fs) ∧ Cls K C ∧ NoAttr K C f ∧ fs.length < 1000 ∧ D.nx σ (upd H a (.ins C dx (putF f y fs)))
theorem w_sfld {f : Str} {tv : TE} (k : tv σ H fun y H1 => ta σ H1 fun x H2 => SFldX K y x f D σ H2) : sFld K ta tv f D σ H := k
theorem w_sfldE {C dx : Addr} {f : Str} {y : V} {fs : List (Str × V)} (S : Hs B M H) (i : Nat) (h : M[i]? = some (p, .ins C dx fs)) (c : Cls K C) (n : NoAttr K C f) (hl : fs.length < 1000) (k : ∀ H', Hs B (M.set i (p, .ins C dx (putF f y fs))) H' → D.nx σ H') : SFldX K y (.ref p) f D σ H :=
  ⟨p, C, dx, fs, rfl, S.get i h, c, n, hl, k _ (S.put i _ h)⟩
/-- x and y by truth -/
theorem w_iteB {b : Bool} {A Z : Prop} (h1 : b = true → A) (h2 : b = false → Z) : if b = true then A else Z := by
  cases b with
  | true => exact iteT (h1 rfl)
  | false => exact iteF (h2 rfl)
/-! ### comprehensions: the list is made in a cell, what it holds stands in B -/
/-- behind a turn: an item more, none more -/
def LcP (B : Hp) (M : List (Addr × HO)) (Pv : Nat → Hp → List V → Prop) (i : Nat) (E : Addr) (y : V) (H4 : Hp) : Prop := ∃ acc, H4 E = some (.lst acc) ∧ acc.length < sizeLine ∧ ∃ B' acc', Same B B' ∧ acc'.length ≤ i ∧ Hs B' ((E, .lst acc') :: M) (upd H4 E (.lst (acc ++ [y]))) ∧ Pv i B' acc'
def LcN (B : Hp) (M : List (Addr × HO)) (Pv : Nat → Hp → List V → Prop) (i : Nat) (E : Addr) (H3 : Hp) : Prop := ∃ B' acc', Same B B' ∧ acc'.length ≤ i ∧ Hs B' ((E, .lst acc') :: M) H3 ∧ Pv i B' acc'
theorem lcp {Pv : Nat → Hp → List V → Prop} {i : Nat} {E : Addr} {y : V} {acc : List V} {B4 : Hp} (S4 : Hs B4 ((E, .lst acc) :: M) H) (e : Same B B4) (hl : acc.length ≤ i) (hi : i < 1000) (pv : Pv (i + 1) B4 (acc ++ [y])) : LcP B M Pv (i + 1) E y H :=
  ⟨acc, S4.get 0, len_lt (by omega), B4, acc ++ [y], e, by simp; omega, S4.put 0 _, pv⟩
theorem lcn {Pv : Nat → Hp → List V → Prop} {i : Nat} {E : Addr} {acc : List V} {B4 : Hp} (S4 : Hs B4 ((E, .lst acc) :: M) H) (e : Same B B4) (hl : acc.length ≤ i) (pv : Pv (i + 1) B4 acc) : LcN B M Pv (i + 1) E H :=
  ⟨B4, acc, e, by omega, S4, pv⟩
theorem lc_by {J : It} {n : Nat} {G : Hp → Prop} {Y : Nat → Hp → V → Hp → Prop} {g : TG} {tt : TT} {vs : List Nat} (W : Walk J n G Y) (S : Hs B M H) (Pv : Nat → Hp → List V → Prop) (h0 : Pv 0 B [])
    (hG : ∀ B' H', Same B B' → Hs B' M H' → G H')
    (hs : ∀ (i : Nat) (x : V) (E : Addr) (B' : Hp) (acc : List V) (H' H'' : Hp), i < n → acc.length ≤ i → Same B B' → Hs B' ((E, .lst acc) :: M) H' → Pv i B' acc → Y i H' x H'' → g x (wipe σ vs) H'' fun σ2 H2 => wipe σ2 vs = wipe σ vs ∧ tt σ2 H2 fun b H3 =>
      if b = true then te σ2 H3 fun y H4 => LcP B M Pv (i + 1) E y H4 else LcN B M Pv (i + 1) E H3)
    (hd : ∀ (E : Addr) (B' : Hp) (acc : List V) (H' : Hp), Same B B' → Hs B' ((E, .lst acc) :: M) H' → acc.length ≤ n → Pv n B' acc → Q (.ref E) H') : LcJ J g tt te vs σ H Q := by
  intro E hE
  refine lc_it W (fun i H' => ∃ B' acc, Same B B' ∧ acc.length ≤ i ∧ Hs B' ((E, .lst acc) :: M) H' ∧ Pv i B' acc) ⟨B, [], Same.refl B, Nat.le_refl _, S.new hE _, h0⟩ (fun i H' _ ⟨B', acc, e, _, S', _⟩ => hG B' H' e (S'.drop 0)) ?_ ?_
  · rintro i x H' H'' hi ⟨B', acc, e, hl, S', pv⟩ y
    exact hs i x E B' acc H' H'' hi hl e S' pv y
  · rintro H' ⟨B', acc, e, hl, S', pv⟩
    exact hd E B' acc H' e S' hl pv
/-- over a list, a tuple that stands in B; over a range -/
theorem lc_L {a : Addr} {ys : List V} {g : TG} {tt : TT} {vs : List Nat} (S : Hs B M H) (hx : B a = some (.lst ys)) (Pv : Nat → Hp → List V → Prop) (h0 : Pv 0 B [])
    (hs : ∀ (i : Nat) (x : V) (E : Addr) (B' : Hp) (acc : List V) (H' : Hp), ys[i]? = some x → acc.length ≤ i → Same B B' → Hs B' ((E, .lst acc) :: M) H' → Pv i B' acc → g x (wipe σ vs) H' fun σ2 H2 => wipe σ2 vs = wipe σ vs ∧ tt σ2 H2 fun b H3 =>
      if b = true then te σ2 H3 fun y H4 => LcP B M Pv (i + 1) E y H4 else LcN B M Pv (i + 1) E H3)
    (hd : ∀ (E : Addr) (B' : Hp) (acc : List V) (H' : Hp), Same B B' → Hs B' ((E, .lst acc) :: M) H' → acc.length ≤ ys.length → Pv ys.length B' acc → Q (.ref E) H') : LcJ (Itl K a) g tt te vs σ H Q :=
  lc_by (walk_list (K := K) (a := a) (xs := ys)) S Pv h0 (fun B' H' e S' => sqL_of (S'.ex _ _ (e _ _ hx))) (fun i x E B' acc H' H'' _ hl e S' pv y => by
    obtain ⟨rfl, hx⟩ := y
    exact hs i x E B' acc _ hx hl e S' pv) hd
theorem lc_T {a : Addr} {ys : List V} {g : TG} {tt : TT} {vs : List Nat} (S : Hs B M H) (hx : B a = some (.tup ys)) (Pv : Nat → Hp → List V → Prop) (h0 : Pv 0 B [])
    (hs : ∀ (i : Nat) (x : V) (E : Addr) (B' : Hp) (acc : List V) (H' : Hp), ys[i]? = some x → acc.length ≤ i → Same B B' → Hs B' ((E, .lst acc) :: M) H' → Pv i B' acc → g x (wipe σ vs) H' fun σ2 H2 => wipe σ2 vs = wipe σ vs ∧ tt σ2 H2 fun b H3 =>
      if b = true then te σ2 H3 fun y H4 => LcP B M Pv (i + 1) E y H4 else LcN B M Pv (i + 1) E H3)
    (hd : ∀ (E : Addr) (B' : Hp) (acc : List V) (H' : Hp), Same B B' → Hs B' ((E, .lst acc) :: M) H' → acc.length ≤ ys.length → Pv ys.length B' acc → Q (.ref E) H') : LcJ (Itt K a) g tt te vs σ H Q :=
  lc_by (walk_tup (K := K) (a := a) (xs := ys)) S Pv h0 (fun B' H' e S' => sqT_of (S'.ex _ _ (e _ _ hx))) (fun i x E B' acc H' H'' _ hl e S' pv y => by
    obtain ⟨rfl, hx⟩ := y
    exact hs i x E B' acc _ hx hl e S' pv) hd
theorem lc_R {n : Nat} {g : TG} {tt : TT} {vs : List Nat} (S : Hs B M H) (Pv : Nat → Hp → List V → Prop) (h0 : Pv 0 B [])
    (hs : ∀ (i : Nat) (E : Addr) (B' : Hp) (acc : List V) (H' : Hp), i < n → acc.length ≤ i → Same B B' → Hs B' ((E, .lst acc) :: M) H' → Pv i B' acc → g (.int (i : Int)) (wipe σ vs) H' fun σ2 H2 => wipe σ2 vs = wipe σ vs ∧ tt σ2 H2 fun b H3 =>
      if b = true then te σ2 H3 fun y H4 => LcP B M Pv (i + 1) E y H4 else LcN B M Pv (i + 1) E H3)
    (hd : ∀ (E : Addr) (B' : Hp) (acc : List V) (H' : Hp), Same B B' → Hs B' ((E, .lst acc) :: M) H' → acc.length ≤ n → Pv n B' acc → Q (.ref E) H') : LcJ (Itr 0 n) g tt te vs σ H Q :=
  lc_by (walk_range (lo := 0) (n := n)) S Pv h0 (fun _ _ _ _ => trivial) (fun i x E B' acc H' H'' hi hl e S' pv y => by
    obtain ⟨rfl, rfl⟩ := y
    show g (.int (0 + (i : Int))) _ _ _
    rw [Int.zero_add]
    exact hs i E B' acc _ hi hl e S' pv) hd
/-- over enumerate(xs), the pair a cell -/
theorem lc_E {a : Addr} {ys : List V} {g : TG} {tt : TT} {vs : List Nat} (S : Hs B M H) (hx : B a = some (.lst ys)) (Pv : Nat → Hp → List V → Prop) (h0 : Pv 0 B [])
    (hs : ∀ (i : Nat) (x : V) (E T : Addr) (B' : Hp) (acc : List V) (H' : Hp), ys[i]? = some x → acc.length ≤ i → Same B B' → Hs B' ((T, .tup [.int (i : Int), x]) :: (E, .lst acc) :: M) H' → Pv i B' acc → g (.ref T) (wipe σ vs) H' fun σ2 H2 => wipe σ2 vs = wipe σ vs ∧ tt σ2 H2 fun b H3 =>
      if b = true then te σ2 H3 fun y H4 => LcP B M Pv (i + 1) E y H4 else LcN B M Pv (i + 1) E H3)
    (hd : ∀ (E : Addr) (B' : Hp) (acc : List V) (H' : Hp), Same B B' → Hs B' ((E, .lst acc) :: M) H' → acc.length ≤ ys.length → Pv ys.length B' acc → Q (.ref E) H') : LcJ (Ite K a) g tt te vs σ H Q :=
  lc_by (walk_enum (K := K) (a := a) (xs := ys)) S Pv h0 (fun B' H' e S' => sqL_of (S'.ex _ _ (e _ _ hx))) (fun i x E B' acc H' H'' _ hl e S' pv y => by
    obtain ⟨T, u, z, rfl, h2, rfl, e1, e2⟩ := y
    cases e1
    exact hs i z E T B' acc _ e2 hl e (S'.new h2 _) pv) hd
end
end Rw

namespace Rw
open PySem PySem.Spec PyProof.Rows L2
/-! ### methods, classes -/
structure CalM (P : Program) (w : World) (K : PySem.W.Frag) (mg : Str → Option Value) (base : Heap) (C : Addr) (m : Str) (k : Nat) (ps : List Str) (sp : Sp) : Prop where
  ex : ∃ (f : Addr) (fd : FuncData), Meth K C m f ∧ Binds K fd ps [] ∧ FnOk P w K mg base CX0 k f fd ps sp
structure CalC (P : Program) (w : World) (K : PySem.W.Frag) (mg : Str → Option Value) (base : Heap) (C : Addr) (x : Str) (k : Nat) (ps : List Str) (sp : Sp) : Prop where
  ex : ∃ (f : Addr) (fd : FuncData), mg x = some (.ref C) ∧ Mk K C f ∧ Binds K fd ps [] ∧ FnOk P w K mg base CX0 k f fd ps sp
structure GloM (K : PySem.W.Frag) (C : Addr) (m qual : Str) (st : Stmt) : Prop where
  ex : ∃ (f : Addr) (fd : FuncData), Meth K C m f ∧ Fun K m qual st f fd
structure GloC (K : PySem.W.Frag) (mg : Str → Option Value) (C : Addr) (x qual : Str) (st : Stmt) : Prop where
  ex : ∃ (f : Addr) (fd : FuncData), mg x = some (.ref C) ∧ Mk K C f ∧ Fun K "__init__" qual st f fd
section
variable {P : Program} {w : World} {K : PySem.W.Frag} {mg : Str → Option Value} {base : Heap} {C : Addr} {x m qual : Str} {st : Stmt} {k : Nat} {ps N : List Str} {sp : Sp}
theorem GloM.cal (G : GloM K C m qual st) (S : FnScope N ps (defScope st)) (bn : ∀ (kV doc pm : Value) (an : Option Addr) (cdv ct : Value) (us : List Value), us.length = ps.length → bindArgs (PySem.W.fnOf m qual (defArgs st) (defBody st) (defScope st) .none kV doc pm an cdv ct) ⟨us, []⟩ = pure (ps.zip us))
    (len : ∀ (vs : List V) (H : Hp) (Q : VK) (E : XK), sp vs H Q E → vs.length = ps.length)
    (hbody : ∀ (f : Addr) (cdv : Value) (A : Around) (outer : List Env) (s : Shared) (H : Hp) (vs : List V) (Q : VK) (E : XK), Room k (A.deeper (envOfC qual (defScope st) s.heap.objs.size f cdv)) → sp vs H Q E →
      ∃ t, PSs (cxOf CX0 P w K mg base N qual (defScope st) f cdv A outer s H E).nox (defBody st) t ∧ t { nx := fun _ H' => Q .non H', rt := Q } (start N vs) H) : CalM P w K mg base C m (k + 1) ps sp := by
  obtain ⟨f, fd, h1, F⟩ := G.ex
  exact ⟨f, fd, h1, F.binds bn, F.ok S len (fun cdv A outer s H vs Q E hr h => hbody f cdv A outer s H vs Q E hr h)⟩
theorem GloC.cal (G : GloC K mg C x qual st) (S : FnScope N ps (defScope st)) (bn : ∀ (kV doc pm : Value) (an : Option Addr) (cdv ct : Value) (us : List Value), us.length = ps.length → bindArgs (PySem.W.fnOf "__init__" qual (defArgs st) (defBody st) (defScope st) .none kV doc pm an cdv ct) ⟨us, []⟩ = pure (ps.zip us))
    (len : ∀ (vs : List V) (H : Hp) (Q : VK) (E : XK), sp vs H Q E → vs.length = ps.length)
    (hbody : ∀ (f : Addr) (cdv : Value) (A : Around) (outer : List Env) (s : Shared) (H : Hp) (vs : List V) (Q : VK) (E : XK), Room k (A.deeper (envOfC qual (defScope st) s.heap.objs.size f cdv)) → sp vs H Q E →
      ∃ t, PSs (cxOf CX0 P w K mg base N qual (defScope st) f cdv A outer s H E).nox (defBody st) t ∧ t { nx := fun _ H' => Q .non H', rt := Q } (start N vs) H) : CalC P w K mg base C x (k + 1) ps sp := by
  obtain ⟨f, fd, h1, h2, F⟩ := G.ex
  exact ⟨f, fd, h1, h2, F.binds bn, F.ok S len (fun cdv A outer s H vs Q E hr h => hbody f cdv A outer s H vs Q E hr h)⟩
end
section
variable {X : Cx} {C : Addr} {x m : Str} {k : Nat} {ps : List Str} {sp : Sp} {o e : Expr} {es : List Expr} {ta : TE} {t : TA} {p apos pos : Pos}
theorem pe_calM {pl : Sem Bool} (he : PE X o ta) (T : Cls X.K C) (F : CalM X.prog X.w X.K X.mg X.base C m k ps sp) (hr : Room k X.A) (ha : PA X (e :: es) t)
    (star : starEach (e :: es) X.env = (false, eval e X.env) :: starEach es X.env := by rfl) (plain : (backTo pos (starEach es X.env)).any (·.1) = false := by rfl) (ht : eval (.Call (.Attribute o m apos) (e :: es) [] pos) X.env = (do
      let w ← eval o X.env
      standAt apos.atName
      let (f, one) ← holding [w] (getMethod w m pl)
      callWith pos f one (backTo pos (starEach (e :: es) X.env)) (backToKw pos (keywordEach [] X.env))) := by rfl) :
    PE X (.Call (.Attribute o m apos) (e :: es) [] pos) (tMeth C m sp [] E0 ta t) := by
  obtain ⟨f, fd, h1, h2, h3⟩ := F.ex
  exact pe_meth he T h1 h3 hr h2 .nil pass0 ha star plain ht
theorem pe_calM0 {pl : Sem Bool} (he : PE X o ta) (T : Cls X.K C) (F : CalM X.prog X.w X.K X.mg X.base C m k ps sp) (hr : Room k X.A)
    (bare : eval (.Call (.Attribute o m apos) [] [] pos) X.env = (do
      let w ← eval o X.env
      standAt apos.atName
      let (f, one) ← holding [w] (getMethod w m pl)
      callWith pos f one (backTo pos (starEach [] X.env)) (backToKw pos (keywordEach [] X.env))) := by rfl) :
    PE X (.Call (.Attribute o m apos) [] [] pos) (tMeth C m sp [] E0 ta tNil) := by
  obtain ⟨f, fd, h1, h2, h3⟩ := F.ex
  exact pe_meth0 he T h1 h3 hr h2 .nil pass0 bare
theorem pe_mk (F : CalC X.prog X.w X.K X.mg X.base C x k ps sp) (hr : Room (k + 1) X.A) (hg : Gl X x) (ha : PA X (e :: es) t) (hdb : (x == ("__debug__" : Str)) = false := by decide) (he : starEach (e :: es) X.env = (false, eval e X.env) :: starEach es X.env := by rfl) (hpl : (backTo pos (starEach es X.env)).any (·.1) = false := by rfl) :
    PE X (.Call (.Name x p) (e :: es) [] pos) (tMake C sp [] E0 t) := by
  obtain ⟨f, fd, h1, h2, h3, h4⟩ := F.ex
  exact pe_make h2 h4 hr hg h1 h3 .nil pass0 ha hdb he hpl
end
end Rw

namespace Rw
open PySem PySem.Spec PyProof.Rows L2
/-! ### rules by the written part -/
section
variable {X : Cx}
theorem k_len (K : PySem.W.Frag) (e : X.K = K := by rfl) : CallR X (.builtin "len") (rLenX K) := by subst e; exact call_lenX
theorem k_list (K : PySem.W.Frag) (e : X.K = K := by rfl) : CallR X (.type "list") (rListX K) := by subst e; exact call_listX
theorem k_tuple (K : PySem.W.Frag) (e : X.K = K := by rfl) : CallR X (.type "tuple") (rTupX K) := by subst e; exact call_tupX
theorem k_type (K : PySem.W.Frag) (e : X.K = K := by rfl) : CallR X (.type "type") (rTyp K) := by subst e; exact call_type1
theorem k_isi (K : PySem.W.Frag) (e : X.K = K := by rfl) : CallR X (.builtin "isinstance") (rIsi K) := by subst e; exact call_isi
theorem k_sum (K : PySem.W.Frag) (hc : X.calm = true) (e : X.K = K := by rfl) : CallR X (.builtin "sum") (rSum K) := by subst e; exact cr_sum hc
theorem k_all (K : PySem.W.Frag) (hc : X.calm = true) (e : X.K = K := by rfl) : CallR X (.builtin "all") (rAll K) := by subst e; exact cr_all hc
theorem k_any (K : PySem.W.Frag) (hc : X.calm = true) (e : X.K = K := by rfl) : CallR X (.builtin "any") (rAny K) := by subst e; exact cr_any hc
theorem k_in (K : PySem.W.Frag) (e : X.K = K := by rfl) : OpR X (compareOp .In) (rIn K false) := by subst e; exact op_in_seq
theorem k_notIn (K : PySem.W.Frag) (e : X.K = K := by rfl) : OpR X (compareOp .NotIn) (rIn K true) := by subst e; exact op_notIn_seq
theorem k_eqD (K : PySem.W.Frag) (hu : X.A.units + 64 < cLine) (e : X.K = K := by rfl) : OpR X (compareOp .Eq) (rEqD K) := by subst e; exact op_eqD hu
theorem k_neD (K : PySem.W.Frag) (hu : X.A.units + 64 < cLine) (e : X.K = K := by rfl) : OpR X (compareOp .NotEq) (rNeD K) := by subst e; exact op_neD hu
theorem k_ixL (K : PySem.W.Frag) (e : X.K = K := by rfl) : IxR X (rIxL K) := by subst e; exact ix_list
theorem k_ixT (K : PySem.W.Frag) (e : X.K = K := by rfl) : IxR X (rIxT K) := by subst e; exact ix_tup
theorem k_slL (K : PySem.W.Frag) (e : X.K = K := by rfl) : SlR X (rSlL K) := by subst e; exact sl_list
theorem k_slT (K : PySem.W.Frag) (e : X.K = K := by rfl) : SlR X (rSlT K) := by subst e; exact sl_tup
theorem k_lcount (K : PySem.W.Frag) (e : X.K = K := by rfl) : MtR X "list.count" (rCntI K) := by subst e; exact mt_lcount
variable {value e o : Expr} {es : List Expr} {ta tv te to tl : TE} {t : TA} {f name : Str} {T id : String} {r : V → List V → Hp → VK → Prop} {pos pos' apos cpos tpos p : Pos} {tg : Expr} {elts : List Expr} {kk n : Nat}
theorem pe_fldK (K : PySem.W.Frag) (he : PE X e ta) (hb : attributeBase e f X.env (eval e X.env) = eval e X.env) (eK : X.K = K := by rfl) : PE X (.Attribute e f pos) (tFld K ta f) := by subst eK; exact pe_fld he hb
theorem ps_fldK (K : PySem.W.Frag) (ha : PE X o ta) (hv : PE X value tv) (hs : swapsWith value (some (.Attribute o f pos')) pos.line X.env = pure false) (eK : X.K = K := by rfl) : PS X (.Assign [.Attribute o f pos'] value pos) (sFld K ta tv f) := by subst eK; exact ps_fld ha hv hs
theorem pe_bm0K (K : PySem.W.Frag) (pa : PlainAttrs T) (slot : Slot T name id) (hty : typeOf (.builtin id) = pure (.type "method_descriptor")) (hm : MtR X id r) (ho : PE X o to)
    (eK : X.K = K := by rfl) (hbase : attributeBase o name X.env (eval o X.env) = eval o X.env := by rfl) (hline : (apos.endLine == cpos.line) = true := by rfl) : PE X (.Call (.Attribute o name apos) [] [] cpos) (tBM0 K T r to) := by
  subst eK
  exact pe_bm0 pa slot hty hm ho hbase hline
theorem pe_bmK (K : PySem.W.Frag) (pa : PlainAttrs T) (slot : Slot T name id) (hty : typeOf (.builtin id) = pure (.type "method_descriptor")) (hm : MtR X id r) (ho : PE X o to) (ha : PA X (e :: es) t)
    (eK : X.K = K := by rfl) (hbase : attributeBase o name X.env (eval o X.env) = eval o X.env := by rfl)
    (few : ((backTo cpos (starEach (e :: es) X.env)).all (fun z => !z.1) && (backToKw cpos (keywordEach [] X.env)).all (fun z => z.1.isSome) && decide ((e :: es).length + ([] : List Keyword).length + (if ([] : List Keyword).isEmpty then 0 else 1) < 30)) = true := by rfl)
    (line : (apos.endLine == cpos.line) = true := by rfl) (star : starEach (e :: es) X.env = (false, eval e X.env) :: starEach es X.env := by rfl) (plain : (backTo cpos (starEach es X.env)).any (·.1) = false := by rfl) :
    PE X (.Call (.Attribute o name apos) (e :: es) [] cpos) (tBM K T r to t) := by
  subst eK
  exact pe_bm pa slot hty hm ho ha hbase few line star plain
def tTru (K : PySem.W.Frag) (ta : TE) : TT := fun σ H Q => ta σ H fun x H' => ∃ c, TruV K x H' c ∧ Q c H'
theorem pt_truthK (K : PySem.W.Frag) (ha : PE X e ta) (he : ∀ whole, isTrue e X.env whole = (do let v ← whole; standAt e.pos; holding [v] (truthy v))) (eK : X.K = K := by rfl) : PT X e (tTru K ta) := by subst eK; exact pt_truth ha he
theorem pe_notTK (K : PySem.W.Frag) (ha : PE X e ta) (eK : X.K = K := by rfl) : PE X (.UnaryOp .Not e pos) (tNotT K ta) := by subst eK; exact pe_notT ha
theorem pe_andTK {b : Expr} {rest : List Expr} {tb : TE} (K : PySem.W.Frag) (ha : PE X e ta) (hb : PE X (.BoolOp .And (b :: rest) pos) tb) (eK : X.K = K := by rfl) : PE X (.BoolOp .And (e :: b :: rest) pos) (tAndT K ta tb) := by subst eK; exact pe_andT ha hb
theorem pe_orTK {b : Expr} {rest : List Expr} {tb : TE} (K : PySem.W.Frag) (ha : PE X e ta) (hb : PE X (.BoolOp .Or (b :: rest) pos) tb) (eK : X.K = K := by rfl) : PE X (.BoolOp .Or (e :: b :: rest) pos) (tOrT K ta tb) := by subst eK; exact pe_orT ha hb
theorem pi_listK (K : PySem.W.Frag) (hl : PE X e tl) (eK : X.K = K := by rfl) : PI X tg e (iList K tl) := by subst eK; exact pi_list hl
theorem pi_tupK (K : PySem.W.Frag) (hl : PE X e tl) (eK : X.K = K := by rfl) : PI X tg e (iTup K tl) := by subst eK; exact pi_tup hl
theorem pi_enumK {ta : TA} (K : PySem.W.Frag) (hg : Gl X "enumerate") (hm : X.mg "enumerate" = none) (ha : PA X [e] ta) (eK : X.K = K := by rfl) (hs : starEach [e] X.env = [(false, eval e X.env)] := by rfl) :
    PI X (.Tuple elts kk tpos) (.Call (.Name "enumerate" p) [e] [] pos) (iEnum K ta) := by subst eK; exact pi_enum hg hm ha hs
theorem pi_zipK {e2 : Expr} {ta : TA} (K : PySem.W.Frag) (hg : Gl X "zip") (hm : X.mg "zip" = none) (ha : PA X [e, e2] ta) (eK : X.K = K := by rfl)
    (star : starEach [e, e2] X.env = (false, eval e X.env) :: starEach [e2] X.env := by rfl) (plain : (backTo pos (starEach [e2] X.env)).any (·.1) = false := by rfl) :
    PI X (.Tuple elts kk tpos) (.Call (.Name "zip" p) [e, e2] [] pos) (iZip K ta) := by subst eK; exact pi_zip hg hm ha star plain
theorem pg_tupK {t : TGs} (K : PySem.W.Frag) (hc : X.calm = true) (h : PGs X es t) (eK : X.K = K := by rfl)
    (hn : (assignEach es X.env).length = n := by rfl) (hst : (assignEach es X.env).findIdx? (·.1) = none := by rfl) : PG X (.Tuple es kk pos) (gTup K n t) := by subst eK; exact pg_tup hc h hn hst
end
/-! their readings -/
section
variable {K : PySem.W.Frag} {σ : L2.St} {H : Hp} {Q : VK} {ta tb : TE} {p : Addr} {xs : List V} {v : V}
def TruX (K : PySem.W.Frag) (x : V) (H : Hp) (R : Bool → Hp → Prop) : Prop := ∃ k, TruV K x H k ∧ R k H
theorem w_tru {R : Bool → Hp → Prop} (k : ta σ H fun x H' => TruX K x H' R) : tTru K ta σ H R := k
theorem w_truB {R : Bool → Hp → Prop} {b : Bool} (k : R b H) : TruX K (.bl b) H R := ⟨b, rfl, k⟩
theorem w_truI {R : Bool → Hp → Prop} {i : Int} (k : R (i != 0) H) : TruX K (.int i) H R := ⟨_, rfl, k⟩
theorem w_truL {R : Bool → Hp → Prop} (h : SqL K H p xs) (k : R (!xs.isEmpty) H) : TruX K (.ref p) H R := ⟨_, .inl ⟨xs, h, rfl⟩, k⟩
theorem w_truT {R : Bool → Hp → Prop} (h : SqT K H p xs) (k : R (!xs.isEmpty) H) : TruX K (.ref p) H R := ⟨_, .inr (.inl ⟨xs, h, rfl⟩), k⟩
theorem w_notT' (k : ta σ H fun x H1 => TruX K x H1 fun c H2 => Q (.bl (!c)) H2) : tNotT K ta σ H Q := k
theorem w_andT (k : ta σ H fun x H1 => TruX K x H1 fun c H2 => if c = true then tb σ H2 Q else Q x H2) : tAndT K ta tb σ H Q := k
theorem w_orT (k : ta σ H fun x H1 => TruX K x H1 fun c H2 => if c = true then Q x H2 else tb σ H2 Q) : tOrT K ta tb σ H Q := k
end
end Rw

namespace Rw
open PySem PySem.Spec PyProof.Rows L2
section
variable {σ : L2.St} {H : Hp} {D : Ends} {tb : TS} {c : TT}
/-- while, by a word over things of one's own and a measure of these -/
def WhW {α : Type} (Pv : α → L2.St → Hp → Prop) (μ : α → Nat) (m : Nat) (σ : L2.St) (H : Hp) : Prop := ∃ a, μ a = m ∧ Pv a σ H
def WhB {α : Type} (Pv : α → L2.St → Hp → Prop) (μ : α → Nat) (m : Nat) (tb : TS) (D : Ends) (σ : L2.St) (H : Hp) : Prop := ∃ N : L2.St → Hp → Prop, (∀ σ' H', N σ' H' → ∃ m', m' < m ∧ WhW Pv μ m' σ' H') ∧ tb { D with nx := N, ct := N, bk := D.nx } σ H
theorem whb {α : Type} {Pv : α → L2.St → Hp → Prop} {μ : α → Nat} {m : Nat} (k : tb { D with nx := fun σ' H' => ∃ a, μ a < m ∧ Pv a σ' H', ct := fun σ' H' => ∃ a, μ a < m ∧ Pv a σ' H', bk := D.nx } σ H) : WhB Pv μ m tb D σ H :=
  ⟨_, fun σ' H' ⟨a, h1, h2⟩ => ⟨_, h1, a, rfl, h2⟩, k⟩
theorem w_while {α : Type} (Pv : α → L2.St → Hp → Prop) (μ : α → Nat) (a0 : α) (h0 : Pv a0 σ H)
    (hs : ∀ a σ H, Pv a σ H → c σ H fun b H1 => if b = true then WhB Pv μ (μ a) tb D σ H1 else D.nx σ H1) : tWhile c tb D σ H := by
  refine ⟨WhW Pv μ, ⟨_, a0, rfl, h0⟩, ?_⟩
  rintro m σ H ⟨a, rfl, p⟩
  exact hs a σ H p
end
/-! ### ints in lists -/
theorem inV_int (c : Int) : ∀ xs : List Int, inV (.int c) (xs.map V.int) = decide (c ∈ xs)
  | [] => by simp [inV]
  | x :: xs => by
    have ih := inV_int c xs
    unfold inV at ih ⊢
    rw [List.map_cons, List.any_cons, ih]
    show ((x == c) || decide (c ∈ xs)) = decide (c ∈ x :: xs)
    rw [Bool.eq_iff_iff]
    simp only [Bool.or_eq_true, beq_iff_eq, decide_eq_true_eq, List.mem_cons]
    constructor
    · rintro (h | h)
      · exact .inl h.symm
      · exact .inr h
    · rintro (h | h)
      · exact .inl h.symm
      · exact .inr h
theorem flat_ints : ∀ xs : List Int, (xs.map V.int).all flatV = true
  | [] => rfl
  | x :: xs => by rw [List.map_cons, List.all_cons, flat_ints xs]; rfl
/-- a list without repeats of numbers below n has at most n items -/
theorem pigeon : ∀ (n : Nat) (xs : List Int), xs.Nodup → (∀ x ∈ xs, 0 ≤ x ∧ x < (n : Int)) → xs.length ≤ n
  | 0, xs, _, h => by
    cases xs with
    | nil => exact Nat.le_refl _
    | cons x xs => have := h x List.mem_cons_self; omega
  | n + 1, xs, nd, h => by
    have h2 : (xs.erase (n : Int)).length ≤ n := pigeon n _ (nd.erase _) fun x hx => by
      have hm := List.mem_of_mem_erase hx
      have hne : x ≠ (n : Int) := fun e => by
        subst e
        exact ((List.Nodup.mem_erase_iff nd).mp hx).1 rfl
      have := h x hm
      omega
    rw [List.length_erase] at h2
    split at h2 <;> omega
theorem pigeon_all {n : Nat} {xs : List Int} (nd : xs.Nodup) (h : ∀ x ∈ xs, 0 ≤ x ∧ x < (n : Int)) : xs.length = n ↔ ∀ x : Int, 0 ≤ x → x < (n : Int) → x ∈ xs := by
  constructor
  · intro e x h0 h1
    refine Classical.byContradiction fun hx => ?_
    have := pigeon n (x :: xs) (List.nodup_cons.mpr ⟨hx, nd⟩) fun y hy => by
      rcases List.mem_cons.mp hy with rfl | hy
      · exact ⟨h0, h1⟩
      · exact h y hy
    simp at this
    omega
  · intro hall
    refine Nat.le_antisymm (pigeon n xs nd h) ?_
    have hsub : ((List.range n).map fun i : Nat => (i : Int)) ⊆ xs := fun y hy => by
      obtain ⟨i, hi, rfl⟩ := List.mem_map.mp hy
      have := List.mem_range.mp hi
      exact hall _ (by omega) (by omega)
    have hnd : ((List.range n).map fun i : Nat => (i : Int)).Nodup := by
      refine List.Pairwise.map _ (fun a b hab e => hab ?_) List.nodup_range
      exact Int.ofNat.inj e
    have := hnd.length_le_of_subset hsub
    simpa using this
end Rw

namespace Rw
open PySem PySem.Spec PyProof.Rows L2
/-! ### tuples whose object is known: their methods may be called -/
def FT (H : Hp) (p : Addr) (xs : List V) : Prop := ∃ o : Obj, o.cls = .type "tuple" ∧ o.dict = none ∧ H p = some (.frz o (.tup xs))
theorem FT.sq {K : PySem.W.Frag} {H : Hp} {p : Addr} {xs : List V} (h : FT H p xs) : SqT K H p xs := by
  obtain ⟨o, _, _, h⟩ := h
  exact .inl (.inr ⟨o, h⟩)
theorem FT.mono {H H' : Hp} {p : Addr} {xs : List V} (e : Same H H') (h : FT H p xs) : FT H' p xs := by
  obtain ⟨o, h1, h2, h⟩ := h
  exact ⟨o, h1, h2, e _ _ h⟩
def rTupF (K : PySem.W.Frag) : List V → Hp → VK → Prop := fun xs H Q => ∃ p ys, xs = [.ref p] ∧ SqL K H p ys ∧ ∀ (l : Addr) (o : Obj), H l = none → o.cls = .type "tuple" → o.dict = none → Q (.ref l) (upd H l (.frz o (.tup ys)))
theorem k_tupF {X : Cx} (K : PySem.W.Frag) (e : X.K = K := by rfl) : CallR X (.type "tuple") (rTupF K) := by
  subst e
  intro pl0 s σ H xs us Q I rel ask
  obtain ⟨p, ys, rfl, hq, q⟩ := ask
  obtain ⟨_, rfl, rx⟩ := vals1 rel
  cases rx
  obtain ⟨its, rv, pl, hz⟩ := id (I.list hq)
  have hn := rv.length
  refine call_tuple_list pl.isList (fun g kp => ?_) (by simp only [List.size_toArray]; omega)
  have I1 : Inv X pl0 σ H { s with heap := g } := I.kept (t' := s.toks) kp
  refine ⟨.ref g.objs.size, upd H g.objs.size (.frz ⟨.type "tuple", none, .seq its.toArray, #[]⟩ (.tup ys)), ?_, rfl, q _ _ (I1.hok.fresh (Nat.le_refl _)) rfl rfl⟩
  refine I1.laid (t' := s.toks) (fun b o e => Heap.get?_push_of_some _ e) (Nat.le_refl _) ?_
  exact ⟨Heap.get?_push_size _ rfl, hz, its, rv, IsTup.new _ _⟩
/-- a tuple's method -/
def tFT (r : V → List V → Hp → VK → Prop) (to : TE) (t : TA) : TE := fun σ H Q => to σ H fun x H1 => (∃ p xs, x = .ref p ∧ FT H1 p xs) ∧ t σ H1 fun vs H2 => r x vs H2 Q
theorem pe_ftm {X : Cx} {o e : Expr} {es : List Expr} {to : TE} {t : TA} {name : Str} {id : String} {r : V → List V → Hp → VK → Prop} {apos cpos : Pos} (pa : PlainAttrs "tuple") (slot : Slot "tuple" name id) (hty : typeOf (.builtin id) = pure (.type "method_descriptor")) (hm : MtR X id r) (ho : PE X o to) (ha : PA X (e :: es) t)
    (base : attributeBase o name X.env (eval o X.env) = eval o X.env := by rfl)
    (few : ((backTo cpos (starEach (e :: es) X.env)).all (fun z => !z.1) && (backToKw cpos (keywordEach [] X.env)).all (fun z => z.1.isSome) && decide ((e :: es).length + ([] : List Keyword).length + (if ([] : List Keyword).isEmpty then 0 else 1) < 30)) = true := by rfl)
    (line : (apos.endLine == cpos.line) = true := by rfl) (star : starEach (e :: es) X.env = (false, eval e X.env) :: starEach es X.env := by rfl) (plain : (backTo cpos (starEach es X.env)).any (·.1) = false := by rfl) :
    PE X (.Call (.Attribute o name apos) (e :: es) [] cpos) (tFT r to t) := by
  constructor
  intro pl s σ H Q I ask
  refine wpAny_Call_method_late base few line rfl (thn (ho.run pl s σ H _ I ask) fun v s1 z => ?_)
  obtain ⟨x, H1, I1, r1, ⟨p, xs, rfl, ob, hc, hd, hp⟩, q1⟩ := z
  cases r1
  have ho := (I1.hok p _ hp).1
  refine ⟨"tuple", id, pa, slot, hty, ⟨ob, ho, hc⟩, fun a ea => ?_, ?_⟩
  · cases ea
    exact ⟨ob, ho, hd⟩
  have args := ha.run cpos pl s1 σ H1 _ I1 q1
  rw [star] at args ⊢
  have none_ : (false || (backTo cpos (starEach es X.env)).any (·.1)) = false := by rw [plain]; rfl
  refine Calls.callWith_builtin none_ (Calls.evalArgs_plain (thn args fun us s2 z => ?_))
  obtain ⟨vs, H2, I2, r2, q2⟩ := z
  exact hm pl s2 σ H2 (.ref p) vs (.ref p) us Q I2 rfl r2 q2
def rTcX (K : PySem.W.Frag) : V → List V → Hp → VK → Prop := fun x xs H Q => ∃ (p : Addr) (ns : List Int) (k : Int), x = .ref p ∧ xs = [.int k] ∧ SqT K H p (ns.map V.int) ∧ Q (.int (ns.count k : Nat)) H
theorem k_tcount {X : Cx} (K : PySem.W.Frag) (e : X.K = K := by rfl) : MtR X "tuple.count" (rTcX K) := by
  subst e
  intro pins s σ H x ys v us Q I rx ry h
  obtain ⟨p, ns, k, rfl, rfl, hq, q⟩ := h
  cases rx
  obtain ⟨u, rfl, t, rfl⟩ := vals1 ry
  obtain ⟨its, rv, ⟨⟨c, dd, dt, sl⟩, ho, hc, n, hd⟩, _⟩ := I.tuple hq
  simp only at hc hd
  subst hc hd
  have hi := ints_of_vals rv
  refine call_meets PySem.F.slot_tuple_count ⟨_, ho, rfl⟩ PySem.F.entry_tuple_count (PySem.F.args_tuple_count_2 _ _)
    (SeqAt.tuple_countAt p its.toArray n dd sl (.int k t) (eqk k)) ⟨ho, fun y hy => (eqk_gives hi y (by simpa using hy)).at _ _, ?_⟩
  have many : its.toArray.toList.countP (eqk k) = ns.count k := eqk_count hi
  exact ⟨.int (ns.count k : Nat), H, I.tok _, ⟨s.toks, by simpa using congrArg (fun z : Nat => Value.int (z : Int) s.toks) many⟩, q⟩
section
variable {K : PySem.W.Frag} {σ : L2.St} {B H : Hp} {M : List (Addr × HO)} {Q : VK} {p : Addr} {xs : List V} {ta : TE}
theorem w_tcount {ns : List Int} {j : Int} (h : SqT K H p (ns.map V.int)) (k : Q (.int (ns.count j : Nat)) H) : rTcX K (.ref p) [.int j] H Q := ⟨p, ns, j, rfl, rfl, h, k⟩
theorem w_tupF (S : Hs B M H) (h : SqL K H p xs) (k : ∀ (q : Addr) (o : Obj) (H' : Hp), o.cls = .type "tuple" → o.dict = none → Hs B ((q, .frz o (.tup xs)) :: M) H' → Q (.ref q) H') : rTupF K [.ref p] H Q :=
  ⟨p, xs, rfl, h, fun l o hl hc hd => k l o _ hc hd (S.new hl _)⟩
def FtmX (r : V → List V → Hp → VK → Prop) (x : V) (t : TA) (σ : L2.St) (H : Hp) (Q : VK) : Prop := (∃ p xs, x = .ref p ∧ FT H p xs) ∧ t σ H fun vs H2 => r x vs H2 Q
theorem w_ftm {r : V → List V → Hp → VK → Prop} {t : TA} (k : ta σ H fun x H1 => FtmX r x t σ H1 Q) : tFT r ta t σ H Q := k
theorem w_ftmE {r : V → List V → Hp → VK → Prop} {t : TA} (h : FT H p xs) (k : t σ H fun vs H2 => r (.ref p) vs H2 Q) : FtmX r (.ref p) t σ H Q := ⟨⟨p, xs, rfl, h⟩, k⟩
end
end Rw

namespace Rw
open PySem PySem.Spec PyProof.Rows L2
section
variable {B B' H : Hp} {M : List (Addr × HO)} {a : Addr} {o : HO}
/-- what was new and shut is opened again: the still part is what it was ahead -/
theorem Hs.thaw (S : Hs B' M H) (e : Same B B') (h : B a = none) (h2 : B' a = some o) : Hs B ((a, o) :: M) H := by
  refine ⟨e.trans S.ex, fun c hc => ?_, List.nodup_cons.mpr ⟨fun hm => ?_, S.nd⟩⟩
  · rcases List.mem_cons.mp hc with q | q
    · subst q
      exact ⟨h, S.ex _ _ h2⟩
    · exact ⟨e.free (S.cel c q).1, (S.cel c q).2⟩
  · obtain ⟨c, hc, q⟩ := List.mem_map.mp hm
    have := (S.cel c hc).1
    rw [show c.1 = a from q, h2] at this
    cases this
theorem look1 {α : Type} {f : Str} {v : α} : [(f, v)].lookup f = some v := by simp [List.lookup]
theorem look1n {α : Type} {f g : Str} {v : α} (h : ¬ g = f) : [(f, v)].lookup g = none := by
  have hb : (g == f) = false := beq_eq_false_iff_ne.mpr h
  simp [List.lookup, hb]
end
end Rw

namespace Rw
open PySem PySem.Spec PyProof.Rows L2
section
variable {K : PySem.W.Frag} {σ : L2.St} {H : Hp} {Q : VK} {B : Hp} {M : List (Addr × HO)} {te : TE}
/-- over a tuple that stands in B, its object known -/
theorem lc_F {a : Addr} {ys : List V} {g : TG} {tt : TT} {vs : List Nat} (S : Hs B M H) (hx : FT B a ys) (Pv : Nat → Hp → List V → Prop) (h0 : Pv 0 B [])
    (hs : ∀ (i : Nat) (x : V) (E : Addr) (B' : Hp) (acc : List V) (H' : Hp), ys[i]? = some x → acc.length ≤ i → Same B B' → Hs B' ((E, .lst acc) :: M) H' → Pv i B' acc → g x (wipe σ vs) H' fun σ2 H2 => wipe σ2 vs = wipe σ vs ∧ tt σ2 H2 fun b H3 =>
      if b = true then te σ2 H3 fun y H4 => LcP B M Pv (i + 1) E y H4 else LcN B M Pv (i + 1) E H3)
    (hd : ∀ (E : Addr) (B' : Hp) (acc : List V) (H' : Hp), Same B B' → Hs B' ((E, .lst acc) :: M) H' → acc.length ≤ ys.length → Pv ys.length B' acc → Q (.ref E) H') : LcJ (Itt K a) g tt te vs σ H Q :=
  lc_by (walk_tup (K := K) (a := a) (xs := ys)) S Pv h0 (fun B' H' e S' => ((hx.mono e).mono S'.ex).sq) (fun i x E B' acc H' H'' _ hl e S' pv y => by
    obtain ⟨rfl, hx⟩ := y
    exact hs i x E B' acc _ hx hl e S' pv) hd
end
end Rw

namespace Rw
open PySem PySem.Spec PyProof.Rows L2
section
variable {K : PySem.W.Frag} {σ : L2.St} {H : Hp} {Q : VK} {B : Hp} {M : List (Addr × HO)} {ta tb : TE}
/-- list(range(n)), list(range(a, b)) -/
def rangeI (n : Nat) : List Int := (List.range n).map fun i : Nat => (i : Int)
theorem rgV_0 (n : Int) : rgV 0 n = (rangeI n.toNat).map V.int := by
  unfold rgV rangeI
  rw [List.map_map, Int.sub_zero]
  refine List.map_congr_left fun i _ => ?_
  show V.int (0 + (i : Int)) = V.int (i : Int)
  rw [Int.zero_add]
def LRgX (a b : Int) (H : Hp) (Q : VK) : Prop := RgOk a b ∧ ∀ q, H q = none → Q (.ref q) (upd H q (.lst (rgV a b)))
theorem w_lrg {te : L2.St → Hp → (Int → Int → Hp → Prop) → Prop} (k : te σ H fun a b H1 => LRgX a b H1 Q) : tLstRg te σ H Q := k
def Rg1X (x : V) (H : Hp) (R : Int → Int → Hp → Prop) : Prop := ∃ n, x = .int n ∧ R 0 n H
theorem w_rg1 {R : Int → Int → Hp → Prop} (k : ta σ H fun x H1 => Rg1X x H1 R) : tRg1 ta σ H R := k
theorem w_rg1E {n : Int} {R : Int → Int → Hp → Prop} (k : R 0 n H) : Rg1X (.int n) H R := ⟨n, rfl, k⟩
theorem w_lrgE {n : Int} (S : Hs B M H) (h0 : 0 ≤ n) (h1 : n ≤ 1000) (k : ∀ q H', Hs B ((q, .lst ((rangeI n.toNat).map V.int)) :: M) H' → Q (.ref q) H') : LRgX 0 n H Q :=
  ⟨.of_le (by omega) (by omega) (by omega) h0, fun q hq => by rw [rgV_0]; exact k q _ (S.new hq _)⟩
theorem rangeI_len (n : Nat) : (rangeI n).length = n := by unfold rangeI; simp
theorem rangeI_get {n i : Nat} (h : i < n) : (rangeI n)[i]? = some (i : Int) := by unfold rangeI; simp [h]
theorem mem_rangeI {n : Nat} {x : Int} : x ∈ rangeI n ↔ 0 ≤ x ∧ x < (n : Int) := by
  unfold rangeI
  rw [List.mem_map]
  constructor
  · rintro ⟨i, hi, rfl⟩
    have := List.mem_range.mp hi
    omega
  · rintro ⟨h0, h1⟩
    exact ⟨x.toNat, List.mem_range.mpr (by omega), by omega⟩
theorem rangeI_up (n : Nat) : (rangeI n).Pairwise (· < ·) := by
  unfold rangeI
  refine List.Pairwise.map _ (fun a b h => ?_) List.pairwise_lt_range
  omega
/-- two rising lists of the same numbers are one -/
theorem up_eq : ∀ {xs ys : List Int}, xs.Pairwise (· < ·) → ys.Pairwise (· < ·) → (∀ x, x ∈ xs ↔ x ∈ ys) → xs = ys
  | [], [], _, _, _ => rfl
  | [], y :: ys, _, _, h => by have := (h y).mpr List.mem_cons_self; simp at this
  | x :: xs, [], _, _, h => by have := (h x).mp List.mem_cons_self; simp at this
  | x :: xs, y :: ys, hx, hy, h => by
    obtain ⟨hx1, hx2⟩ := List.pairwise_cons.mp hx
    obtain ⟨hy1, hy2⟩ := List.pairwise_cons.mp hy
    have e : x = y := by
      rcases List.mem_cons.mp ((h x).mp List.mem_cons_self) with e | hm
      · exact e
      · rcases List.mem_cons.mp ((h y).mpr List.mem_cons_self) with e | hm2
        · exact e.symm
        · have a := hy1 x hm
          have b := hx1 y hm2
          omega
    subst e
    rw [up_eq hx2 hy2 fun z => ?_]
    constructor
    · intro hz
      rcases List.mem_cons.mp ((h z).mp (List.mem_cons_of_mem _ hz)) with e | hm
      · have := hx1 z hz; omega
      · exact hm
    · intro hz
      rcases List.mem_cons.mp ((h z).mpr (List.mem_cons_of_mem _ hz)) with e | hm
      · have := hy1 z hz; omega
      · exact hm
/-! ### == of lists of ints -/
def dI (xs : List Int) : PyData := .list (xs.map .int)
theorem dpAll_ints {K : PySem.W.Frag} {H : Hp} : ∀ xs : List Int, DpAll K H (xs.map V.int) (xs.map PyData.int)
  | [] => .nil
  | x :: xs => .cons (.int x) (dpAll_ints xs)
theorem dp_ints {K : PySem.W.Frag} {H : Hp} {p : Addr} {xs : List Int} (h : H p = some (.lst (xs.map V.int))) : Dp K H (.ref p) (dI xs) := .lst (sqL_of h) (dpAll_ints xs)
def dLL (rows : List (List Int)) : PyData := .list (rows.map dI)
theorem dpAll_rows {K : PySem.W.Frag} {H : Hp} : ∀ {as : List Addr} {rows : List (List Int)}, LR H as rows → DpAll K H (as.map V.ref) (rows.map dI)
  | _, _, .nil => .nil
  | _, _, .cons r t => .cons (dp_ints r) (dpAll_rows t)
theorem dp_rows {K : PySem.W.Frag} {H : Hp} {p : Addr} {rows : List (List Int)} (h : LL H p rows) : Dp K H (.ref p) (dLL rows) := by
  obtain ⟨as, h1, h2⟩ := h
  exact .lst (sqL_of h1) (dpAll_rows h2)
end
end Rw

namespace Rw
open PySem PySem.Spec PyProof.Rows L2
/-! ### the form of data, == of data -/
structure Shp (n : Nat) (d : PyData) : Prop where
  lay : PyData.canLay0 d = true
  dep : PyData.depth d ≤ n
theorem shp_all {n : Nat} : ∀ {ds : List PyData}, (∀ d ∈ ds, Shp n d) → PyData.canLayAll0 ds = true ∧ PyData.depthAll ds ≤ n
  | [], _ => ⟨by simp [PyData.canLayAll0], by simp [PyData.depthAll]⟩
  | d :: ds, h => by
    obtain ⟨h1, h2⟩ := shp_all (ds := ds) fun x hx => h x (List.mem_cons_of_mem _ hx)
    have h3 := h d List.mem_cons_self
    refine ⟨?_, ?_⟩
    · simp only [PyData.canLayAll0, Bool.and_eq_true]
      exact ⟨h3.lay, h1⟩
    · simp only [PyData.depthAll]
      exact Nat.max_le.mpr ⟨h3.dep, h2⟩
theorem shp_list {n : Nat} {ds : List PyData} (h : ∀ d ∈ ds, Shp n d) : Shp (n + 1) (.list ds) := by
  obtain ⟨h1, h2⟩ := shp_all h
  exact ⟨by simp only [PyData.canLay0]; exact h1, by simp only [PyData.depth]; omega⟩
theorem shp_tup {n : Nat} {ds : List PyData} (h : ∀ d ∈ ds, Shp n d) : Shp (n + 1) (.tuple ds) := by
  obtain ⟨h1, h2⟩ := shp_all h
  exact ⟨by simp only [PyData.canLay0]; exact h1, by simp only [PyData.depth]; omega⟩
theorem shp_int (i : Int) : Shp 0 (.int i) := ⟨by simp only [PyData.canLay0], by simp [PyData.depth]⟩
theorem Shp.mono {n m : Nat} {d : PyData} (h : Shp n d) (e : n ≤ m) : Shp m d := ⟨h.lay, Nat.le_trans h.dep e⟩
theorem Shp.shaped {n : Nat} {d : PyData} (h : Shp n d) (e : n ≤ 64 := by decide) : SeqAt.shaped d = true := by
  unfold SeqAt.shaped
  rw [Bool.and_eq_true]
  exact ⟨h.lay, decide_eq_true (Nat.le_trans h.dep e)⟩
theorem shp_dI (xs : List Int) : Shp 1 (dI xs) := shp_list fun d hd => by
  obtain ⟨i, _, rfl⟩ := List.mem_map.mp hd
  exact shp_int i
theorem shp_dLL (rows : List (List Int)) : Shp 2 (dLL rows) := shp_list fun d hd => by
  obtain ⟨i, _, rfl⟩ := List.mem_map.mp hd
  exact shp_dI i
theorem eqvAll_ints : ∀ xs ys : List Int, PyData.eqvAll (xs.map .int) (ys.map .int) = decide (xs = ys)
  | [], [] => by simp [PyData.eqvAll]
  | [], y :: ys => by simp [PyData.eqvAll]
  | x :: xs, [] => by simp [PyData.eqvAll]
  | x :: xs, y :: ys => by
    rw [List.map_cons, List.map_cons]
    simp only [PyData.eqvAll, PyData.eqv]
    rw [eqvAll_ints xs ys, Bool.eq_iff_iff]
    simp
theorem eqv_dI (xs ys : List Int) : PyData.eqv (dI xs) (dI ys) = decide (xs = ys) := by
  unfold dI
  simp only [PyData.eqv]
  exact eqvAll_ints xs ys
theorem eqvAll_rows : ∀ xs ys : List (List Int), PyData.eqvAll (xs.map dI) (ys.map dI) = decide (xs = ys)
  | [], [] => by simp [PyData.eqvAll]
  | [], y :: ys => by simp [PyData.eqvAll]
  | x :: xs, [] => by simp [PyData.eqvAll]
  | x :: xs, y :: ys => by
    rw [List.map_cons, List.map_cons]
    simp only [PyData.eqvAll]
    rw [eqv_dI, eqvAll_rows xs ys, Bool.eq_iff_iff]
    simp
theorem eqv_dLL (xs ys : List (List Int)) : PyData.eqv (dLL xs) (dLL ys) = decide (xs = ys) := by
  unfold dLL
  simp only [PyData.eqv]
  exact eqvAll_rows xs ys
section
variable {K : PySem.W.Frag} {H : Hp} {Q : VK} {p q : Addr}
theorem w_eqI {xs ys : List Int} (h : H p = some (.lst (xs.map V.int))) (h2 : H q = some (.lst (ys.map V.int))) (k : Q (.bl (decide (xs = ys))) H) : rEqD K (.ref p) (.ref q) H Q :=
  w_eqD (dp_ints h) (dp_ints h2) (shp_dI _).shaped (shp_dI _).shaped (by rw [eqv_dI]; exact k)
theorem w_neI {xs ys : List Int} (h : H p = some (.lst (xs.map V.int))) (h2 : H q = some (.lst (ys.map V.int))) (k : Q (.bl (!decide (xs = ys))) H) : rNeD K (.ref p) (.ref q) H Q :=
  w_neD (dp_ints h) (dp_ints h2) (shp_dI _).shaped (shp_dI _).shaped (by rw [eqv_dI]; exact k)
theorem w_neLL {xs ys : List (List Int)} (h : LL H p xs) (h2 : LL H q ys) (k : Q (.bl (!decide (xs = ys))) H) : rNeD K (.ref p) (.ref q) H Q :=
  w_neD (dp_rows h) (dp_rows h2) (shp_dLL _).shaped (shp_dLL _).shaped (by rw [eqv_dLL]; exact k)
/-- isinstance of what is known -/
theorem w_isiI {i : Int} {n : String} {b : Bool} (e : kitB "int" n = some b) (k : Q (.bl b) H) : rIsi K [.int i, .ty n] H Q := w_isi (.ty n) (.base (.int i)) (kit_ty e) k
theorem w_isiB {c : Bool} {n : String} {b : Bool} (e : kitB "bool" n = some b) (k : Q (.bl b) H) : rIsi K [.bl c, .ty n] H Q := w_isi (.ty n) (.base (.bl c)) (kit_ty e) k
theorem w_isiL {xs : List V} {n : String} {b : Bool} (h : H p = some (.lst xs)) (e : kitB "list" n = some b) (k : Q (.bl b) H) : rIsi K [.ref p, .ty n] H Q := w_isi (.ty n) (.base (.lst h)) (kit_ty e) k
end
end Rw

/-! Rw: a caught exception that is kept behind its suite; isinstance and a field of it. -/
namespace Rw
open PySem PySem.Spec PyProof.Rows L2

/-- an error's object that is known of: its class, its dict -/
def ExK (cls : Value) (d : Option Addr) (a : Addr) : HO := .ext fun hp => ∃ (ob : Obj) (fl : Array Value), hp.get? a = some ob ∧ Zc cls d ob ∧ ob.data = .fields fl
section
variable {X : Cx} {pl : List (Addr × Obj)} {sl : L2.St} {H : Hp} {st : Shared} {a : Addr}
theorem exK_ok {P : Program} {w : World} {hp : Heap} {cls : Value} {d : Option Addr} {ob : Obj} {fl : Array Value} (e : hp.get? a = some ob) (z : Zc cls d ob) (hd : ob.data = .fields fl) : ObjOk P w H hp a (ExK cls d a) := by
  refine ⟨⟨ob, fl, e, z, hd⟩, ⟨ob, e⟩, fun _ _ hx st => ?_⟩
  obtain ⟨ob', fl', e', z', hd'⟩ := hx
  exact ⟨ob', fl', st ob' e', z', hd'⟩
/-- what was not there at the entry, and is no frame, cell or pin, may be tracked -/
theorem _root_.L2.Inv.track {o : HO} (I : Inv X pl sl H st) (no : H a = none) (new0 : X.s_0.heap.get? a = none) (noL : a ≠ X.env.locals) (noC : ∀ y c, X.env.cells.lookup y = some c → c ≠ a) (noP : ∀ p ∈ X.pn ++ pl, p.1 ≠ a) (is : ObjOk X.prog X.w (upd H a o) st.heap a o) : Inv X pl sl (upd H a o) st := by
  have up : ∀ {b u}, H b = some u → upd H a o b = some u := fun {b u} e => (upd_ne (ne_of_none e no)).trans e
  have off : ∀ {b}, b ≠ a → H b = none → upd H a o b = none := fun {b} n e => (upd_ne n).trans e
  have U := I.base
  constructor
  · exact I.ok
  · exact I.os
  · exact I.bare
  · constructor
    · exact U.keep
    · exact U.slot
    · intro b ob hb n x
      refine off (fun z => ?_) (U.free b ob hb n x)
      rw [z, new0] at hb
      cases hb
    · exact U.there
    · exact fun b xs hb => up (U.tups b xs hb)
    · exact fun b ob u hb => up (U.frzs b ob u hb)
    · intro b ps hb
      obtain ⟨more, z⟩ := U.tbls b ps hb
      exact ⟨more, up z⟩
  · exact I.loc
  · exact I.cell
  · exact off noL.symm I.free
  · exact fun y c hc => off (noC y c hc) (I.freeC y c hc)
  · intro p hp
    have z := I.pin p hp
    exact ⟨z.1, off (noP p hp) z.2.1, z.2.2⟩
  · intro b u hb
    by_cases eb : b = a
    · subst eb
      cases upd_same.symm.trans hb
      exact is
    · refine (I.hok b u ((upd_ne eb).symm.trans hb)).stay (fun _ _ _ z => z) (fun _ z => up z) fun _ _ z => up z
  · exact I.len
/-- into a suite, nothing pinned besides, and out of it -/
theorem toSuite (I : Inv X pl sl H st) (a : Addr) : Inv (X.suite a (X.pn ++ pl)) [] sl H st := by
  obtain ⟨i1, i2, i3, i4, i5, i6, i7, i8, i9, i10, i11⟩ := I
  exact ⟨i1.suite _ _, i2, i3, i4, i5, i6, i7, i8, by simpa using i9, i10, i11⟩
theorem ofSuite {more : List (Addr × Obj)} (ok : X.Ok) (I : Inv (X.suite a (X.pn ++ pl)) more sl H st) : Inv X pl sl H st := by
  obtain ⟨_, i2, i3, i4, i5, i6, i7, i8, i9, i10, i11⟩ := I
  exact ⟨ok, i2, i3, i4, i5, i6, i7, i8, fun p hp => i9 p (List.mem_append.mpr (.inl hp)), i10, i11⟩
end

/-! ### an error that has come down to a try -/
/-- the error a flies over the heap hp; su: the state without it, sv: the one with it -/
structure Down (X : Cx) (pl : List (Addr × Obj)) (sl : L2.St) (H : Hp) (B : Heap) (a : Addr) (cls : Value) (d : Option Addr) (su sv : Shared) (hp : Heap) : Prop where
  inv : Inv X pl sl H su
  old : ∀ b o, su.heap.get? b = some o → b ∉ frs X.stack → B.get? b = some o
  way : su.heap.UpToSlots hp
  os : sv.os = su.os
  bare : AllBare sv.gens
  fly : HandSPX.FlyingZ B (X.env :: X.outer) a (Zc cls d) hp
  out : H a = none
namespace Down
variable {X : Cx} {pl : List (Addr × Obj)} {sl : L2.St} {H : Hp} {B hp : Heap} {a : Addr} {cls : Value} {d : Option Addr} {su sv : Shared} (D : Down X pl sl H B a cls d su sv hp)
include D
theorem now : Inv X pl sl H { sv with heap := hp } := Inv.landed (s' := { sv with heap := hp }) D.inv D.old D.fly.1 D.way D.os D.bare
theorem nofr : a ∉ frs (X.env :: X.outer) := by
  obtain ⟨ob, fl, e1, _, e2⟩ := D.fly.there
  intro hm
  obtain ⟨_, ob', e3, hno⟩ := D.fly.2.2.1.mem hm
  cases e1.symm.trans e3
  exact hno _ e2
theorem noL (hf : X.env.frame = some X.env.locals) : a ≠ X.env.locals := fun z => D.nofr (by
  rw [z]
  exact List.mem_filterMap.mpr ⟨X.env, List.mem_cons_self, hf⟩)
theorem noF : a ∉ X.fs := by
  intro hm
  obtain ⟨en, he, z⟩ := List.mem_filterMap.mp hm
  exact D.nofr (List.mem_filterMap.mpr ⟨en, .tail _ he, z⟩)
/-- it was not there before it was raised -/
theorem new (hs : X.stack = X.env :: X.outer) : su.heap.get? a = none := by
  match e : su.heap.get? a with
  | none => rfl
  | some o => exact nomatch (D.old a o e (hs ▸ D.nofr)).symm.trans D.fly.2.1
theorem new0 (hx : X.ex = []) (hs : X.stack = X.env :: X.outer) : X.s_0.heap.get? a = none := by
  match e : X.s_0.heap.get? a with
  | none => rfl
  | some o =>
    obtain ⟨o', z⟩ := D.inv.base.there a o e (by simp [hx])
    exact nomatch z.symm.trans (D.new hs)
/-- tracked, within the suite -/
theorem inSuite (hx : X.ex = []) (hs : X.stack = X.env :: X.outer) (hf : X.env.frame = some X.env.locals) : Inv (X.suite a (X.pn ++ pl)) [] sl (upd H a (ExK cls d a)) { sv with heap := hp } := by
  obtain ⟨ob, fl, e1, e2, e3⟩ := D.fly.there
  have none_ := D.new hs
  refine toSuite (D.now.track D.out (D.new0 hx hs) (D.noL hf) (fun y c hc z => ?_) (fun p hp' z => ?_) (exK_ok e1 e2 e3)) a
  · obtain ⟨_, o, ho, _⟩ := D.inv.cell y c hc
    rw [z] at ho
    exact nomatch ho.symm.trans none_
  · have ho := (D.inv.pin p hp').1
    rw [z] at ho
    exact nomatch ho.symm.trans none_
/-- the clause's class is read, and asked whether it is the error's -/
theorem asks {x : Str} {c : Value} {np : Pos} {t : Bool} (hf : X.env.frame = some X.env.locals) (hc : Names X x c) (m : PySem.W.exmOne X.K cls c = some t) {Q E : Value → Shared → Prop} (q : Q c { sv with heap := hp }) :
    wpAny (model X.prog X.w) (X.A.mark (some (.ref a))) (eval (.Name x np) X.env) Q E { sv with heap := hp } := by
  obtain ⟨ob, fl, e1, _, e3⟩ := D.fly.there
  have S := D.now.suite e1 e3 D.out (D.noL hf) D.noF
  rcases hc with ⟨h1, h2, h3 | ⟨h3, h4, h5⟩⟩
  · exact ld_glob (X := X.suite a _) S h1 h3 q h2
  · exact ld_blt (X := X.suite a _) S h1 h3 h4 q h5 h2
theorem looks {c : Value} {t : Bool} (m : PySem.W.exmOne X.K cls c = some t) : PySem.W.Looks (model X.prog X.w) hp (excMatches (.ref a) c) t := by
  obtain ⟨ob, fl, e1, e2, _⟩ := D.fly.there
  exact PySem.W.exm_one D.now.kIn (fun _ _ _ _ k r => wpAny_typeOf_ref (k a ob e1) (by rw [e2.1]; exact r)) m
end Down

/-- what the clause 'except x as n' wishes of an error of the body: slot i is n's; the error is tracked from then on -/
def wAsT (K : PySem.W.Frag) (c : Value) (i : Nat) (ts : Addr → TS) (Wout : WX) (En : Ends) : WX := fun cls d sl H =>
  ∃ t, PySem.W.exmOne K cls c = some t ∧ (t = false → Wout cls d sl H) ∧ (t = true → ∀ a, H a = none → ts a ⟨fun s1 H1 => En.nx (s1.set i none) H1, En.rt, fun s1 H1 => En.bk (s1.set i none) H1, fun s1 H1 => En.ct (s1.set i none) H1⟩ (sl.set i (some (.ref a))) (upd H a (ExK cls d a)))
section
variable {X : Cx} {x n : Str} {c : Value} {i : Nat} {body suite : List Stmt} {b₀ : Stmt} {np pos pos' : Pos} {tb : WX → TS} {ts : Addr → TS} {Wout : WX}
theorem ps_try_asT (hx : X.ex = []) (hs : X.stack = X.env :: X.outer) (hf : X.env.frame = some X.env.locals) (hN : X.N.Nodup) (hi : X.N[i]? = some n) (hln : X.env.kindOf n = some .local) (hc : Names X x c) (tk : Takes X Wout)
    (hb : ∀ W pn xe, Takes (X.tr pn xe) W → PassesOwn (model X.prog X.w) X.A X.env xe → PSs (X.tr pn xe) body (tb W)) (hsu : ∀ a pn, PSs (X.suite a pn) (b₀ :: suite) (ts a)) :
    PS X (.Try body [.ExceptHandler (some (.Name x np)) (some n) (b₀ :: suite) pos'] [] [] pos) (fun En sl H => tb (wAsT X.K c i ts Wout En) En sl H) := by
  constructor
  intro pl st sl H En I0 q0
  have okX := I0.ok
  apply wpAny_Try_except
  apply wpAny_mono ((hb (wAsT X.K c i ts Wout En) (X.pn ++ pl) _ ?tk PassesOwn.looking).run [] st sl H En (I0.toTry _) q0) ?fine ?same
  case same => exact fun _ _ z => z
  case fine =>
    intro fl s1 z
    cases fl with
    | next => exact wpAny_execs_nil (let ⟨s2, H2, J, r⟩ := z; ⟨s2, H2, J.ofTry okX, r⟩)
    | ret u => exact let ⟨v, s2, H2, J, r, k⟩ := z; ⟨v, s2, H2, J.ofTry okX, r, k⟩
    | brk => exact let ⟨s2, H2, J, r⟩ := z; ⟨s2, H2, J.ofTry okX, r⟩
    | cont => exact let ⟨s2, H2, J, r⟩ := z; ⟨s2, H2, J.ofTry okX, r⟩
  case tk =>
    rintro _ sv ⟨a, B, su, pl', s0, H0, cls, d, rfl, J, old, way, sky, out, hos, bare, t, ht, no, yes⟩
    have J := J.ofTry okX
    refine Sky.land Zc.steady (hs ▸ okX.frames) hf (hs ▸ sky) fun h1 fly1 way1 => ?_
    have D1 : Down X pl s0 H0 B a cls d su sv h1 := ⟨J, old, way.trans way1, hos, bare, fly1, out⟩
    refine wpAny_handleBy_cons (codeAny_handlers_test (D1.asks hf hc ht ((D1.looks ht).here ?_))) (fun z => nomatch z)
    cases t with
    | false =>
      obtain ⟨_, _, _, ob, fs, tr, _, _, e1, _, e2, e3, _⟩ := id D1.fly
      have leave : wpAny (model X.prog X.w) X.A (setFlight (.ref a) (some X.env.locals)) (fun _ s4 => wpAny (model X.prog X.w) X.A (throw (.ref a)) (SP X pl En) X.xe s4) X.xe { sv with heap := h1 } :=
        HandSPX.setFlight_upZ D1.fly fun h2 held way2 => wpAny_throw (tk _ _ ⟨a, B, su, pl, s0, H0, cls, d, rfl, J, old, D1.way.trans way2, .inr (.inr (hs ▸ held)), out, hos, bare, no rfl⟩)
      rw [← hf] at leave
      apply wpAny_handleBy_nil
      unfold PySem.passOn
      refine wpAny_bind (wpAny_field e1 e2 e3 ?_)
      rw [if_neg (by simp : ¬ ((Value.ref tr == Value.none) = true))]
      first
        | exact wpAny_bind leave
        | exact wpAny_bind (wpAny_pure (wpAny_bind leave))
    | true =>
      apply codeAny_handlers_suite_as
      refine HandSPX.lands_againZ D1.fly fun h2 fly2 way2 => ?_
      have D2 : Down X pl s0 H0 B a cls d su sv h2 := ⟨J, old, D1.way.trans way2, hos, bare, fly2, out⟩
      refine store_ok (X := X.suite a (X.pn ++ pl)) (v := .ref a) (D2.inSuite hx hs hf) hN hi (.inl hln) rfl (fun s3 I3 => ?_) (.inr hln)
      refine wpAny_mono ((hsu a (X.pn ++ pl)).run [] s3 _ _ _ I3 (yes rfl a out)) (fun fl s4 z => ?_) fun _ _ z => z.elim
      have unname : ∀ {s5 H5 R}, Inv (X.suite a (X.pn ++ pl)) [] s5 H5 s4 → (∀ s6, Inv X pl (s5.set i none) H5 s6 → R s6) → wpAny (model X.prog X.w) X.A (do bindName X.env n .none; unbindBehindTheSuite X.env n pos') (fun _ => R) X.xe s4 :=
        fun I5 k => gone_ok (ofSuite okX I5) hN hi hln k
      cases fl with
      | next => exact let ⟨_, _, I5, k⟩ := z; unname I5 fun _ I6 => ⟨_, _, I6, k⟩
      | ret u => exact let ⟨_, _, _, I5, r, k⟩ := z; unname I5 fun _ I6 => ⟨_, _, _, I6, r, k⟩
      | brk => exact let ⟨_, _, I5, k⟩ := z; unname I5 fun _ I6 => ⟨_, _, I6, k⟩
      | cont => exact let ⟨_, _, I5, k⟩ := z; unname I5 fun _ I6 => ⟨_, _, I6, k⟩
end

/-- isinstance(x, c), x an error that is tracked -/
def rIsK (K : PySem.W.Frag) : List V → Hp → VK → Prop := fun xs H Q => ∃ (a D : Addr) (d : Option Addr) (c : V) (cv : Value) (b : Bool), xs = [.ref a, c] ∧ H a = some (ExK (.ref D) d a) ∧ (∀ dd, d = some dd → ∃ fs, H dd = some (.xd fs)) ∧ ExcC K D ∧ (∀ u, RelV c u → u = cv) ∧ PySem.W.kitOne K (.ref D) cv = some b ∧ Q (.bl b) H
section
variable {X : Cx} {pl : List (Addr × Obj)} {sl : L2.St} {H : Hp} {st : Shared} {a D : Addr} {d : Option Addr}
theorem call_isK : CallR X (.builtin "isinstance") (rIsK X.K) := by
  intro pl st sl H xs us Q I rel ask
  obtain ⟨a, D, d, c, cv, b, rfl, ha, hdd, C, hcv, e, q⟩ := ask
  match rel with
  | .cons ra (.cons rc .nil) =>
    cases ra
    cases hcv _ rc
    obtain ⟨⟨ob, fl, g1, g2, g3⟩, _⟩ := I.hok a _ ha
    have inst : ∃ od, PySem.W.InstAt st.heap a ob D od := by
      cases d with
      | none => exact ⟨none, g1, g2.1, by unfold PySem.W.notCls; rw [g3] <;> rfl, by rw [g2.2]; trivial⟩
      | some dd =>
        obtain ⟨fs, hf⟩ := hdd dd rfl
        obtain ⟨mA, ns, _⟩ := I.hok dd _ hf
        obtain ⟨od, g4, _⟩ := lookIn_ns ns
        exact ⟨some od, g1, g2.1, by unfold PySem.W.notCls; rw [g3] <;> rfl, by rw [g2.2]; exact g4⟩
    obtain ⟨od, J⟩ := inst
    obtain ⟨_, cl, _⟩ := PySem.W.any_some C.hd
    exact PySem.W.kia_one (PySem.W.kitx_exc (cl ▸ rfl) C.hg C.hk C.hs C.ha C.hn C.ht C.hm) I.kIn J e (fun z => nomatch z) fun tk => ⟨.bl b, H, I.kept (t' := tk) fun _ _ z => z, rfl, q⟩
/-- x.f, x an error with a dict that is tracked -/
def tXfK (K : PySem.W.Frag) (f : Str) (te : TE) : TE := fun sl H Q => te sl H fun x H1 => ∃ (a C dd : Addr) (fs : List (Str × V)) (v : V), x = .ref a ∧ H1 a = some (ExK (.ref C) (some dd) a) ∧ XfC K C ∧ PySem.W.findIn K (.ref C) f = some none ∧ H1 dd = some (.xd fs) ∧ fs.lookup f = some v ∧ Q v H1
theorem pe_xfK {e : Expr} {te : TE} {pos : Pos} {n : Str} (he : PE X e te) (hb : attributeBase e n X.env (eval e X.env) = eval e X.env := by rfl) : PE X (.Attribute e n pos) (tXfK X.K n te) := by
  constructor
  intro pl st sl H Q I q
  refine attr_of hb (thn (he.run pl st sl H _ I q) fun u s1 z => ?_)
  obtain ⟨_, H1, I1, rel, a, C, dd, fs, v, rfl, ha, T, none_, hdd, at_, q1⟩ := z
  cases rel
  obtain ⟨⟨ob, fl, g1, g2, g3⟩, _⟩ := I1.hok a _ ha
  obtain ⟨mA, ns, rels⟩ := I1.hok dd _ hdd
  obtain ⟨od, g4, g5⟩ := lookIn_ns ns
  have rn := rels n
  rw [at_] at rn
  obtain ⟨w, hw, rw_⟩ := RelO.some_of rn
  have J : PySem.W.InstAt s1.heap a ob C (some od) := ⟨g1, g2.1, by unfold PySem.W.notCls; rw [g3] <;> rfl, by rw [g2.2]; exact g4⟩
  exact HandSPX.exc_get I1.kIn J T.ga T.gg T.exC (PySem.W.findObj_own T.hdC none_ rfl (by rw [g5, hw])) (handed_of rw_) ⟨v, H1, I1.tok _, rw_, q1⟩
end

/-! ### promises of what may raise -/
structure CalX (P : Program) (w : World) (K : PySem.W.Frag) (mg : Str → Option Value) (base : Heap) (x : Str) (k : Nat) (ps : List Str) (sp : Sp) : Prop where
  ex : ∃ (f : Addr) (fd : FuncData), mg x = some (.ref f) ∧ PySem.W.keepIn K (.ref f) = true ∧ Binds K fd ps [] ∧ FnOk P w K mg base (L2.CX P w) k f fd ps sp ∧ ∃ (oc : Value) (od : Option Addr) (osl : Array (Option Value)), K.lookup f = some ⟨oc, od, .func fd, osl⟩
structure CalMX (P : Program) (w : World) (K : PySem.W.Frag) (mg : Str → Option Value) (base : Heap) (C : Addr) (m : Str) (k : Nat) (ps : List Str) (sp : Sp) : Prop where
  ex : ∃ (f : Addr) (fd : FuncData), Meth K C m f ∧ Binds K fd ps [] ∧ FnOk P w K mg base (L2.CX P w) k f fd ps sp
structure CalCX (P : Program) (w : World) (K : PySem.W.Frag) (mg : Str → Option Value) (base : Heap) (C : Addr) (x : Str) (k : Nat) (ps : List Str) (sp : Sp) : Prop where
  ex : ∃ (f : Addr) (fd : FuncData), mg x = some (.ref C) ∧ Mk K C f ∧ Binds K fd ps [] ∧ FnOk P w K mg base (L2.CX P w) k f fd ps sp
section
variable {P : Program} {w : World} {K : PySem.W.Frag} {mg : Str → Option Value} {base : Heap} {C : Addr} {x m qual : Str} {st : Stmt} {k : Nat} {ps N : List Str} {sp : Sp}
theorem Glo.calX (G : Glo K mg x st) (S : FnScope N ps (defScope st)) (bn : ∀ (kV doc pm : Value) (an : Option Addr) (cdv ct : Value) (us : List Value), us.length = ps.length → bindArgs (PySem.W.fnOf x x (defArgs st) (defBody st) (defScope st) .none kV doc pm an cdv ct) ⟨us, []⟩ = pure (ps.zip us))
    (len : ∀ (vs : List V) (H : Hp) (Q : VK) (E : XK), sp vs H Q E → vs.length = ps.length)
    (hbody : ∀ (f : Addr) (cdv : Value) (A : Around) (outer : List Env) (s : Shared) (H : Hp) (vs : List V) (Q : VK) (E : XK), Room k (A.deeper (envOfC x (defScope st) s.heap.objs.size f cdv)) → sp vs H Q E →
      ∃ t, PSs (cxOf (L2.CX P w) P w K mg base N x (defScope st) f cdv A outer s H E) (defBody st) t ∧ t { nx := fun _ H' => Q .non H', rt := Q } (start N vs) H) : CalX P w K mg base x (k + 1) ps sp := by
  obtain ⟨f, fd, h1, F⟩ := G.ex
  refine ⟨f, fd, h1, F.kp, F.binds bn, F.okX S len (fun cdv A outer s H vs Q E hr h => hbody f cdv A outer s H vs Q E hr h), ?_⟩
  obtain ⟨oc, od, kV, doc, pm, an, cdv, ct, osl, _, lk, _⟩ := F.ex
  exact ⟨oc, od, osl, lk⟩
theorem GloM.calX (G : GloM K C m qual st) (S : FnScope N ps (defScope st)) (bn : ∀ (kV doc pm : Value) (an : Option Addr) (cdv ct : Value) (us : List Value), us.length = ps.length → bindArgs (PySem.W.fnOf m qual (defArgs st) (defBody st) (defScope st) .none kV doc pm an cdv ct) ⟨us, []⟩ = pure (ps.zip us))
    (len : ∀ (vs : List V) (H : Hp) (Q : VK) (E : XK), sp vs H Q E → vs.length = ps.length)
    (hbody : ∀ (f : Addr) (cdv : Value) (A : Around) (outer : List Env) (s : Shared) (H : Hp) (vs : List V) (Q : VK) (E : XK), Room k (A.deeper (envOfC qual (defScope st) s.heap.objs.size f cdv)) → sp vs H Q E →
      ∃ t, PSs (cxOf (L2.CX P w) P w K mg base N qual (defScope st) f cdv A outer s H E) (defBody st) t ∧ t { nx := fun _ H' => Q .non H', rt := Q } (start N vs) H) : CalMX P w K mg base C m (k + 1) ps sp := by
  obtain ⟨f, fd, h1, F⟩ := G.ex
  exact ⟨f, fd, h1, F.binds bn, F.okX S len (fun cdv A outer s H vs Q E hr h => hbody f cdv A outer s H vs Q E hr h)⟩
theorem GloC.calX (G : GloC K mg C x qual st) (S : FnScope N ps (defScope st)) (bn : ∀ (kV doc pm : Value) (an : Option Addr) (cdv ct : Value) (us : List Value), us.length = ps.length → bindArgs (PySem.W.fnOf "__init__" qual (defArgs st) (defBody st) (defScope st) .none kV doc pm an cdv ct) ⟨us, []⟩ = pure (ps.zip us))
    (len : ∀ (vs : List V) (H : Hp) (Q : VK) (E : XK), sp vs H Q E → vs.length = ps.length)
    (hbody : ∀ (f : Addr) (cdv : Value) (A : Around) (outer : List Env) (s : Shared) (H : Hp) (vs : List V) (Q : VK) (E : XK), Room k (A.deeper (envOfC qual (defScope st) s.heap.objs.size f cdv)) → sp vs H Q E →
      ∃ t, PSs (cxOf (L2.CX P w) P w K mg base N qual (defScope st) f cdv A outer s H E) (defBody st) t ∧ t { nx := fun _ H' => Q .non H', rt := Q } (start N vs) H) : CalCX P w K mg base C x (k + 1) ps sp := by
  obtain ⟨f, fd, h1, h2, F⟩ := G.ex
  exact ⟨f, fd, h1, h2, F.binds bn, F.okX S len (fun cdv A outer s H vs Q E hr h => hbody f cdv A outer s H vs Q E hr h)⟩
end
section
variable {X : Cx} {C : Addr} {x m : Str} {k : Nat} {ps : List Str} {sp : Sp} {E : XK} {W : WX} {o e : Expr} {es : List Expr} {ta : TE} {t : TA} {p apos pos : Pos}
theorem pe_calX (C : CalX X.prog X.w X.K X.mg X.base x k ps sp) (hr : Room k X.A) (hg : Gl X x) (tk : Takes X W) (hW : ∀ cls d σ H, E cls d H → W cls d σ H) (ha : PA X (e :: es) t) (hdb : (x == ("__debug__" : Str)) = false := by decide) (he : starEach (e :: es) X.env = (false, eval e X.env) :: starEach es X.env := by rfl) (hpl : (backTo pos (starEach es X.env)).any (·.1) = false := by rfl) : PE X (.Call (.Name x p) (e :: es) [] pos) (tCall sp [] E t) := by
  obtain ⟨f, fd, h1, h2, h3, h4, _⟩ := C.ex
  exact pe_call h4 hr hg h1 h2 h3 .nil (passes_call tk hW) ha hdb he hpl
theorem pe_calMX {pl : Sem Bool} (he : PE X o ta) (T : Cls X.K C) (F : CalMX X.prog X.w X.K X.mg X.base C m k ps sp) (hr : Room k X.A) (tk : Takes X W) (hW : ∀ cls d σ H, E cls d H → W cls d σ H) (ha : PA X (e :: es) t)
    (star : starEach (e :: es) X.env = (false, eval e X.env) :: starEach es X.env := by rfl) (plain : (backTo pos (starEach es X.env)).any (·.1) = false := by rfl) (ht : eval (.Call (.Attribute o m apos) (e :: es) [] pos) X.env = (do
      let w ← eval o X.env
      standAt apos.atName
      let (f, one) ← holding [w] (getMethod w m pl)
      callWith pos f one (backTo pos (starEach (e :: es) X.env)) (backToKw pos (keywordEach [] X.env))) := by rfl) :
    PE X (.Call (.Attribute o m apos) (e :: es) [] pos) (tMeth C m sp [] E ta t) := by
  obtain ⟨f, fd, h1, h2, h3⟩ := F.ex
  exact pe_meth he T h1 h3 hr h2 .nil (passes_call tk hW) ha star plain ht
theorem pe_calM0X {pl : Sem Bool} (he : PE X o ta) (T : Cls X.K C) (F : CalMX X.prog X.w X.K X.mg X.base C m k ps sp) (hr : Room k X.A) (tk : Takes X W) (hW : ∀ cls d σ H, E cls d H → W cls d σ H)
    (bare : eval (.Call (.Attribute o m apos) [] [] pos) X.env = (do
      let w ← eval o X.env
      standAt apos.atName
      let (f, one) ← holding [w] (getMethod w m pl)
      callWith pos f one (backTo pos (starEach [] X.env)) (backToKw pos (keywordEach [] X.env))) := by rfl) :
    PE X (.Call (.Attribute o m apos) [] [] pos) (tMeth C m sp [] E ta tNil) := by
  obtain ⟨f, fd, h1, h2, h3⟩ := F.ex
  exact pe_meth0 he T h1 h3 hr h2 .nil (passes_call tk hW) bare
theorem pe_mkX (F : CalCX X.prog X.w X.K X.mg X.base C x k ps sp) (hr : Room (k + 1) X.A) (hg : Gl X x) (tk : Takes X W) (hW : ∀ cls d σ H, E cls d H → W cls d σ H) (ha : PA X (e :: es) t) (hdb : (x == ("__debug__" : Str)) = false := by decide) (he : starEach (e :: es) X.env = (false, eval e X.env) :: starEach es X.env := by rfl) (hpl : (backTo pos (starEach es X.env)).any (·.1) = false := by rfl) :
    PE X (.Call (.Name x p) (e :: es) [] pos) (tMake C sp [] E t) := by
  obtain ⟨f, fd, h1, h2, h3, h4⟩ := F.ex
  exact pe_make h2 h4 hr hg h1 h3 .nil (passes_call tk hW) ha hdb he hpl
end

/-! ### own errors -/
/-- what is wanted of an own error class without own __init__ -/
structure ErrT (K : PySem.W.Frag) (mg : Str → Option Value) (x : Str) (C : Addr) : Prop where
  gP : mg x = some (.ref C)
  xP : PySem.W.excIn K C [.type "ValueError", .type "Exception", .type "BaseException", .type "object"] "ValueError.__new__" = true
  kP : PySem.W.keepIn K (.ref C) = true
  bP : PySem.W.subIn K (.ref C) (.type "BaseException") = some true
  tP : PySem.W.typeIn K (.ref C) = some (.type "type")
section
variable {X : Cx} {C : Addr} {x : Str} {e : Expr} {te : TE} {p pos : Pos}
/-- X(e), raised -/
theorem pmk_ownE (T : ErrT X.K X.mg x C) (he : PE X e te) (hg : Gl X x) (hs : starEach [e] X.env = (false, eval e X.env) :: starEach [] X.env := by rfl) (hdb : (x == ("__debug__" : Str)) = false := by decide) :
    PMk X (.Call (.Name x p) [e] [] pos) (fun σ H Q => te σ H fun _ H1 => Q (.ref C) none H1) := by
  intro pl st sl H Q I q
  let one : List V → Hp → Prop := fun
    | [_], H1 => Q (.ref C) none H1
    | _, _ => False
  refine wpAny_Call_Name_kw (ld_glob I hg T.gP (PySem.W.callWith_K (h₀ := X.base) I.ok.mod.kin T.kP (thn ((pa_cons (hs := hs) he pa_nil).run pos pl st sl H one I q) fun us s1 z => ?_) hs (by rfl)) hdb)
  obtain ⟨vs, H1, I1, rel, q1⟩ := z
  refine ⟨I1.kIn, ?_⟩
  match rel, q1 with
  | .cons _ .nil, q1 =>
    obtain ⟨_, _, _, _, _, _, _, _, _, _, _, _, _, _, _, _, _, hC, hN, hni, tail⟩ := exc_obj I1.kIn T.xP
    show wpAny _ _ (call (.ref C) [_]) _ _ _
    refine wpAny_call_exc_subT PySem.F.excBase_ValueError tail hC hN hni (fun _ _ hm => mk_of I1 hm (raises_own T.bP T.tP) q1 (I1.hok.gone hm.new)) ?_
    simp [sizeLine_eq]
/-- raise X(e) -/
theorem ps_raiseE {W : WX} {pos' : Pos} (T : ErrT X.K X.mg x C) (hc : X.calm = true) (tk : Takes X W) (he : PE X e te) (hg : Gl X x) (hs : starEach [e] X.env = (false, eval e X.env) :: starEach [] X.env := by rfl) (hdb : (x == ("__debug__" : Str)) = false := by decide) :
    PS X (.Raise (some (.Call (.Name x p) [e] [] pos)) none pos') (fun _ σ H => te σ H fun _ H1 => W (.ref C) none σ H1) := ps_raise hc tk (pmk_ownE T he hg hs hdb)
end

/-! ### f-strings of ints -/
section
variable {σ : L2.St} {H : Hp} {acc s : Str} {ts : List TE} {te : TE} {Q : Str → Hp → Prop} {Q' : VK} {i : Int}
theorem w_jsN (k : Q acc H) : tJs [] acc σ H Q := k
theorem w_jsC (n : Nat) (hn : acc.length ≤ n) (hs : s.length + n ≤ 10000000 := by decide +kernel) (k : ∀ acc' : Str, acc'.length ≤ s.length + n → tJs ts acc' σ H Q) : tJs (tC (.str s) :: ts) acc σ H Q := by
  have e : (acc ++ s).length ≤ s.length + n := by rw [PySem.Str.length_append]; omega
  exact ⟨s, rfl, by rw [sizeLine_eq]; omega, k _ e⟩
theorem w_jsI (n : Nat) (hn : acc.length ≤ n) (hs : n ≤ 10000000) (k : te σ H fun x H1 => ∃ i, x = .int i ∧ i.natAbs < 1900 ∧ ∀ acc' : Str, acc'.length ≤ n + 1921 → tJs ts acc' σ H1 Q)
    (mono : ∀ Q1 Q2 : VK, (∀ x H1, Q1 x H1 → Q2 x H1) → te σ H Q1 → te σ H Q2) : tJs (tFmt te :: ts) acc σ H Q := by
  refine mono _ _ (fun x H1 h => ?_) k
  obtain ⟨i, rfl, hi, hk⟩ := h
  have hl : i.natAbs.log2 < 1920 := Nat.lt_of_le_of_lt (Nat.log2_le_self _) (by omega)
  have e := PyProof.Rows.int_text_len_1921 hl
  have e2 : (acc ++ PySem.Str.ofString (toString i)).length ≤ n + 1921 := by rw [PySem.Str.length_append]; omega
  exact .inr ⟨i, rfl, hl, _, rfl, by rw [sizeLine_eq]; omega, hk _ e2⟩
/-- .. behind the walk to the int -/
theorem w_fmtI (n : Nat) (hn : acc.length ≤ n) (hs : n ≤ 10000000) (hi : i.natAbs < 1900) (k : ∀ acc' : Str, acc'.length ≤ n + 1921 → tJs ts acc' σ H Q) :
    (∃ y : Str, V.int i = .str y ∧ y.length ≤ sizeLine ∧ ∃ y' : Str, V.str y = .str y' ∧ (acc ++ y').length ≤ sizeLine ∧ tJs ts (acc ++ y') σ H Q) ∨ ∃ j : Int, V.int i = .int j ∧ j.natAbs.log2 < 1920 ∧ ∃ y' : Str, V.str (PySem.Str.ofString (toString j)) = .str y' ∧ (acc ++ y').length ≤ sizeLine ∧ tJs ts (acc ++ y') σ H Q := by
  have hl : i.natAbs.log2 < 1920 := Nat.lt_of_le_of_lt (Nat.log2_le_self _) (by omega)
  have e := PyProof.Rows.int_text_len_1921 hl
  have e2 : (acc ++ PySem.Str.ofString (toString i)).length ≤ n + 1921 := by rw [PySem.Str.length_append]; omega
  exact .inr ⟨i, rfl, hl, _, rfl, by rw [sizeLine_eq]; omega, k _ e2⟩
theorem w_fmt (k : te σ H fun x H1 => (∃ y : Str, x = .str y ∧ y.length ≤ sizeLine ∧ Q' (.str y) H1) ∨ ∃ i : Int, x = .int i ∧ i.natAbs.log2 < 1920 ∧ Q' (.str (PySem.Str.ofString (toString i))) H1) : tFmt te σ H Q' := k
theorem w_jsF (k : te σ H fun x H1 => (∃ y : Str, x = .str y ∧ y.length ≤ sizeLine ∧ ∃ y' : Str, V.str y = .str y' ∧ (acc ++ y').length ≤ sizeLine ∧ tJs ts (acc ++ y') σ H1 Q) ∨ ∃ i : Int, x = .int i ∧ i.natAbs.log2 < 1920 ∧ ∃ y' : Str, V.str (PySem.Str.ofString (toString i)) = .str y' ∧ (acc ++ y').length ≤ sizeLine ∧ tJs ts (acc ++ y') σ H1 Q) : tJs (tFmt te :: ts) acc σ H Q := k
end

/-! ### calls that may raise, walked -/
section
variable {K : PySem.W.Frag} {σ : L2.St} {H : Hp} {Q : VK} {E : XK} {ta : TE} {t : TA} {B : Hp} {M : List (Addr × HO)} {p : Addr} {C : Addr} {m : Str} {sp : Sp}
theorem w_callX (k : t σ H fun vs H1 => sp (vs ++ []) H1 Q E) : tCall sp [] E t σ H Q := k
def MethXX (C : Addr) (m : Str) (sp : Sp) (E : XK) (y : V) (t : TA) (σ : L2.St) (H1 : Hp) (Q : VK) : Prop := ∃ p dx fs, y = .ref p ∧ H1 p = some (.ins C dx fs) ∧ fs.lookup m = none ∧ t σ H1 fun vs H2 => sp (y :: (vs ++ [])) H2 Q E
theorem w_methX (k : ta σ H fun x H1 => MethXX C m sp E x t σ H1 Q) : tMeth C m sp [] E ta t σ H Q := k
theorem w_methXE {dx : Addr} {fs : List (Str × V)} (h : H p = some (.ins C dx fs)) (hm : fs.lookup m = none) (k : t σ H fun vs H2 => sp (.ref p :: (vs ++ [])) H2 Q E) : MethXX C m sp E (.ref p) t σ H Q := ⟨p, dx, fs, rfl, h, hm, k⟩
def MakeXX (C : Addr) (sp : Sp) (E : XK) (vs : List V) (H : Hp) (Q : VK) : Prop := ∀ x dx, H x = none → H dx = none → dx ≠ x → sp (.ref x :: (vs ++ [])) (upd (upd H dx (.own x)) x (.ins C dx [])) (fun v H2 => v = .non ∧ Q (.ref x) H2) E
theorem w_makeX (k : t σ H fun vs H1 => MakeXX C sp E vs H1 Q) : tMake C sp [] E t σ H Q := k
theorem w_makeXE {vs : List V} (S : Hs B M H) (k : ∀ x dx H', Hs B ((x, .ins C dx []) :: (dx, .own x) :: M) H' → sp (.ref x :: (vs ++ [])) H' (fun v H2 => v = .non ∧ Q (.ref x) H2) E) : MakeXX C sp E vs H Q := fun x dx hx hd ne =>
  k x dx _ ((S.new hd (.own x)).new (by rw [upd_ne ne.symm]; exact hx) _)
end

section
variable {X : Cx}
theorem k_isK (K : PySem.W.Frag) (e : X.K = K := by rfl) : CallR X (.builtin "isinstance") (rIsK K) := by subst e; exact call_isK
theorem pe_xfKK (K : PySem.W.Frag) {e : Expr} {te : TE} {pos : Pos} {n : Str} (he : PE X e te) (hK : X.K = K := by rfl) (hb : attributeBase e n X.env (eval e X.env) = eval e X.env := by rfl) : PE X (.Attribute e n pos) (tXfK K n te) := by subst hK; exact pe_xfK he hb
/-- the slots' number is known where an error is caught -/
theorem takes_len {W : WX} (tk : Takes X W) : Takes X (fun c d σ H => σ.length = X.N.length → W c d σ H) := fun u s' ⟨a, B, sI, pins, σ, H, cls, d, e, I, nb, up, sky, na, os, ag, w⟩ =>
  tk u s' ⟨a, B, sI, pins, σ, H, cls, d, e, I, nb, up, sky, na, os, ag, w I.len⟩
end
section
variable {K : PySem.W.Frag} {σ : L2.St} {H : Hp} {Q : VK} {B : Hp} {M : List (Addr × HO)} {a D : Addr}
/-- isinstance of a kept error without a dict, walked -/
theorem w_isK {c : V} {cv : Value} {b : Bool} (ha : H a = some (ExK (.ref D) none a)) (C : ExcC K D) (hc : ∀ u, RelV c u → u = cv) (e : PySem.W.kitOne K (.ref D) cv = some b) (k : Q (.bl b) H) : rIsK K [.ref a, c] H Q :=
  ⟨a, D, none, c, cv, b, rfl, ha, (fun _ z => nomatch z), C, hc, e, k⟩
theorem rel_ref {C : Addr} : ∀ u, RelV (.ref C) u → u = .ref C := fun _ h => h
theorem rel_ty {s : String} : ∀ u, RelV (.ty s) u → u = .type s := fun _ h => h
end
end Rw

/-! Rw, further: defaults, item sums, zip in comprehensions, vectors. -/
namespace Rw
open PySem PySem.Spec PyProof.Rows L2

/-! ### what may raise, where no raising is wished -/
theorem calmed {P : Program} {w : World} {K : PySem.W.Frag} {mg : Str → Option Value} {base : Heap} {k : Nat} {f : Addr} {fd : FuncData} {ps : List Str} {sp : Sp} (F : FnOk P w K mg base (L2.CX P w) k f fd ps sp) :
    FnOk P w K mg base CX0 k f fd ps (fun vs H Q _ => sp vs H Q (fun _ _ _ => False)) := by
  refine ⟨fun vs H Q E h => F.len vs H Q _ h, fun A outer s H args us vs Q E hr he hb hv h => ?_⟩
  refine codeAny_mono (F.run A outer s H args us vs Q _ hr he hb hv h) fun r s' hq => ?_
  cases r with
  | error e =>
    obtain ⟨a, B', H', cls, d, _, _, _, _, _, _, _, z⟩ := hq
    exact z.elim
  | ok fl => cases fl <;> exact hq
section
variable {P : Program} {w : World} {K : PySem.W.Frag} {mg : Str → Option Value} {base : Heap} {C : Addr} {x m : Str} {k j : Nat} {ps : List Str} {sp sp' : Sp}
theorem CalMX.calm (F : CalMX P w K mg base C m k ps sp) (h : ∀ vs H Q, sp' vs H Q E0 → sp vs H Q (fun _ _ _ => False)) (hE : ∀ vs H Q E, sp' vs H Q E → sp' vs H Q E0) : CalM P w K mg base C m k ps sp' := by
  obtain ⟨f, fd, h1, h2, h3⟩ := F.ex
  exact ⟨f, fd, h1, h2, (calmed h3).imp fun vs H Q E q => h vs H Q (hE vs H Q E q)⟩
theorem CalCX.calm (F : CalCX P w K mg base C x k ps sp) (h : ∀ vs H Q, sp' vs H Q E0 → sp vs H Q (fun _ _ _ => False)) (hE : ∀ vs H Q E, sp' vs H Q E → sp' vs H Q E0) : CalC P w K mg base C x k ps sp' := by
  obtain ⟨f, fd, h1, h2, h3, h4⟩ := F.ex
  exact ⟨f, fd, h1, h2, h3, (calmed h4).imp fun vs H Q E q => h vs H Q (hE vs H Q E q)⟩
theorem CalX.calm (F : CalX P w K mg base x k ps sp) (h : ∀ vs H Q, sp' vs H Q E0 → sp vs H Q (fun _ _ _ => False)) (hE : ∀ vs H Q E, sp' vs H Q E → sp' vs H Q E0) : Cal P w K mg base x k ps sp' := by
  obtain ⟨f, fd, h1, h2, h3, h4, h5⟩ := F.ex
  exact ⟨f, fd, h1, h2, h3, (calmed h4).imp fun vs H Q E q => h vs H Q (hE vs H Q E q), h5⟩
theorem CalM.mono (F : CalM P w K mg base C x j ps sp) (h : j ≤ k) : CalM P w K mg base C x k ps sp := by
  obtain ⟨f, fd, h1, h2, h3⟩ := F.ex
  exact ⟨f, fd, h1, h2, h3.mono h⟩
theorem CalX.mono (F : CalX P w K mg base x j ps sp) (h : j ≤ k) : CalX P w K mg base x k ps sp := by
  obtain ⟨f, fd, h1, h2, h3, h4, h5⟩ := F.ex
  exact ⟨f, fd, h1, h2, h3, h4.mono h, h5⟩
theorem CalMX.mono (F : CalMX P w K mg base C x j ps sp) (h : j ≤ k) : CalMX P w K mg base C x k ps sp := by
  obtain ⟨f, fd, h1, h2, h3⟩ := F.ex
  exact ⟨f, fd, h1, h2, h3.mono h⟩
theorem CalC.mono (F : CalC P w K mg base C x j ps sp) (h : j ≤ k) : CalC P w K mg base C x k ps sp := by
  obtain ⟨f, fd, h1, h2, h3, h4⟩ := F.ex
  exact ⟨f, fd, h1, h2, h3, h4.mono h⟩
theorem CalCX.mono (F : CalCX P w K mg base C x j ps sp) (h : j ≤ k) : CalCX P w K mg base C x k ps sp := by
  obtain ⟨f, fd, h1, h2, h3, h4⟩ := F.ex
  exact ⟨f, fd, h1, h2, h3, h4.mono h⟩
end

/-! ### defs with defaults -/
structure GloMD (K : PySem.W.Frag) (C : Addr) (m qual : Str) (st : Stmt) (dvs : List V) : Prop where
  ex : ∃ (f : Addr) (fd : FuncData), Meth K C m f ∧ FunD K m qual (defArgs st) (defBody st) (defScope st) dvs [] f fd
structure GloCD (K : PySem.W.Frag) (mg : Str → Option Value) (C : Addr) (x qual : Str) (st : Stmt) (dvs : List V) : Prop where
  ex : ∃ (f : Addr) (fd : FuncData), mg x = some (.ref C) ∧ Mk K C f ∧ FunD K "__init__" qual (defArgs st) (defBody st) (defScope st) dvs [] f fd
/-- promises with the last parameters' defaults filled in -/
structure CalMd (P : Program) (w : World) (K : PySem.W.Frag) (mg : Str → Option Value) (base : Heap) (C : Addr) (m : Str) (k : Nat) (ps : List Str) (dvs : List V) (sp : Sp) : Prop where
  ex : ∃ (f : Addr) (fd : FuncData) (ds : List Value), Meth K C m f ∧ Vals dvs ds ∧ Binds K fd ps ds ∧ FnOk P w K mg base (L2.CX P w) k f fd ps sp
structure CalCd (P : Program) (w : World) (K : PySem.W.Frag) (mg : Str → Option Value) (base : Heap) (C : Addr) (x : Str) (k : Nat) (ps : List Str) (dvs : List V) (sp : Sp) : Prop where
  ex : ∃ (f : Addr) (fd : FuncData) (ds : List Value), mg x = some (.ref C) ∧ Mk K C f ∧ Vals dvs ds ∧ Binds K fd ps ds ∧ FnOk P w K mg base (L2.CX P w) k f fd ps sp
section
variable {P : Program} {w : World} {K : PySem.W.Frag} {mg : Str → Option Value} {base : Heap} {C : Addr} {x m qual : Str} {st : Stmt} {k j n : Nat} {ps N : List Str} {sp : Sp} {dvs : List V}
/-- how n written values and the defaults behind the first j bind -/
abbrev BindD (m qual : Str) (st : Stmt) (ps : List Str) (many n j : Nat) : Prop := ∀ (T : Addr) (kV doc pm : Value) (an : Option Addr) (cdv ct : Value) (us its : List Value), us.length = n → its.length = many →
  ∃ k, bindArgs (PySem.W.fnOf m qual (defArgs st) (defBody st) (defScope st) (.ref T) kV doc pm an cdv ct) ⟨us, []⟩ = seqItems? (.ref T) >>= k ∧ k (some its.toArray) = pure (ps.zip (us ++ its.drop j))
abbrev BodyX (P : Program) (w : World) (K : PySem.W.Frag) (mg : Str → Option Value) (base : Heap) (N : List Str) (qual : Str) (st : Stmt) (k : Nat) (sp : Sp) : Prop :=
  ∀ (f : Addr) (cdv : Value) (A : Around) (outer : List Env) (s : Shared) (H : Hp) (vs : List V) (Q : VK) (E : XK), Room k (A.deeper (envOfC qual (defScope st) s.heap.objs.size f cdv)) → sp vs H Q E →
    ∃ t, PSs (cxOf (L2.CX P w) P w K mg base N qual (defScope st) f cdv A outer s H E) (defBody st) t ∧ t { nx := fun _ H' => Q .non H', rt := Q } (start N vs) H
theorem GloMD.calD (G : GloMD K C m qual st dvs) (S : FnScope N ps (defScope st)) (n j : Nat) (hd : dvs ≠ []) (hn : n + (dvs.length - j) = ps.length) (bn : BindD m qual st ps dvs.length n j)
    (len : ∀ (vs : List V) (H : Hp) (Q : VK) (E : XK), sp vs H Q E → vs.length = ps.length) (hbody : BodyX P w K mg base N qual st k sp) : CalMd P w K mg base C m (k + 1) ps (dvs.drop j) sp := by
  obtain ⟨f, fd, h1, F⟩ := G.ex
  obtain ⟨ds, h2, h3⟩ := F.binds1 n j hd hn bn
  exact ⟨f, fd, ds, h1, h2, h3, F.ok S len (fun cdv A outer s H vs Q E hr h => hbody f cdv A outer s H vs Q E hr h)⟩
theorem GloCD.calD (G : GloCD K mg C x qual st dvs) (S : FnScope N ps (defScope st)) (n j : Nat) (hd : dvs ≠ []) (hn : n + (dvs.length - j) = ps.length) (bn : BindD "__init__" qual st ps dvs.length n j)
    (len : ∀ (vs : List V) (H : Hp) (Q : VK) (E : XK), sp vs H Q E → vs.length = ps.length) (hbody : BodyX P w K mg base N qual st k sp) : CalCd P w K mg base C x (k + 1) ps (dvs.drop j) sp := by
  obtain ⟨f, fd, h0, h1, F⟩ := G.ex
  obtain ⟨ds, h2, h3⟩ := F.binds1 n j hd hn bn
  exact ⟨f, fd, ds, h0, h1, h2, h3, F.ok S len (fun cdv A outer s H vs Q E hr h => hbody f cdv A outer s H vs Q E hr h)⟩
theorem vals_nil {ds : List Value} (h : Vals [] ds) : ds = [] := by cases h; rfl
theorem CalMd.full (F : CalMd P w K mg base C m k ps [] sp) : CalMX P w K mg base C m k ps sp := by
  obtain ⟨f, fd, ds, h1, h2, h3, h4⟩ := F.ex
  rw [vals_nil h2] at h3
  exact ⟨f, fd, h1, h3, h4⟩
theorem CalCd.full (F : CalCd P w K mg base C x k ps [] sp) : CalCX P w K mg base C x k ps sp := by
  obtain ⟨f, fd, ds, h0, h1, h2, h3, h4⟩ := F.ex
  rw [vals_nil h2] at h3
  exact ⟨f, fd, h0, h1, h3, h4⟩
theorem CalMd.mono (F : CalMd P w K mg base C m j ps dvs sp) (h : j ≤ k) : CalMd P w K mg base C m k ps dvs sp := by
  obtain ⟨f, fd, ds, h1, h2, h3, h4⟩ := F.ex
  exact ⟨f, fd, ds, h1, h2, h3, h4.mono h⟩
theorem CalCd.mono (F : CalCd P w K mg base C x j ps dvs sp) (h : j ≤ k) : CalCd P w K mg base C x k ps dvs sp := by
  obtain ⟨f, fd, ds, h0, h1, h2, h3, h4⟩ := F.ex
  exact ⟨f, fd, ds, h0, h1, h2, h3, h4.mono h⟩
end
section
variable {X : Cx} {C : Addr} {x m : Str} {k : Nat} {ps : List Str} {sp : Sp} {E : XK} {W : WX} {o e : Expr} {es : List Expr} {ta : TE} {t : TA} {p apos pos : Pos} {dvs : List V}
/-- o.m(e, ..) with defaults, what it raises wished for -/
theorem pe_calMdX {pl : Sem Bool} (he : PE X o ta) (T : Cls X.K C) (F : CalMd X.prog X.w X.K X.mg X.base C m k ps dvs sp) (hr : Room k X.A) (tk : Takes X W) (hW : ∀ cls d σ H, E cls d H → W cls d σ H) (ha : PA X (e :: es) t)
    (star : starEach (e :: es) X.env = (false, eval e X.env) :: starEach es X.env := by rfl) (plain : (backTo pos (starEach es X.env)).any (·.1) = false := by rfl) (ht : eval (.Call (.Attribute o m apos) (e :: es) [] pos) X.env = (do
      let w ← eval o X.env
      standAt apos.atName
      let (f, one) ← holding [w] (getMethod w m pl)
      callWith pos f one (backTo pos (starEach (e :: es) X.env)) (backToKw pos (keywordEach [] X.env))) := by rfl) :
    PE X (.Call (.Attribute o m apos) (e :: es) [] pos) (tMeth C m sp (dvs : List V) E ta t) := by
  obtain ⟨f, fd, ds, h1, h2, h3, h4⟩ := F.ex
  exact pe_meth he T h1 h4 hr h3 h2 (passes_call tk hW) ha star plain ht
/-- .. where none is wished -/
theorem pe_calMd {pl : Sem Bool} (he : PE X o ta) (T : Cls X.K C) (F : CalMd X.prog X.w X.K X.mg X.base C m k ps dvs sp) (hr : Room k X.A) (ha : PA X (e :: es) t)
    (star : starEach (e :: es) X.env = (false, eval e X.env) :: starEach es X.env := by rfl) (plain : (backTo pos (starEach es X.env)).any (·.1) = false := by rfl) (ht : eval (.Call (.Attribute o m apos) (e :: es) [] pos) X.env = (do
      let w ← eval o X.env
      standAt apos.atName
      let (f, one) ← holding [w] (getMethod w m pl)
      callWith pos f one (backTo pos (starEach (e :: es) X.env)) (backToKw pos (keywordEach [] X.env))) := by rfl) :
    PE X (.Call (.Attribute o m apos) (e :: es) [] pos) (tMeth C m (fun vs H Q _ => sp vs H Q (fun _ _ _ => False)) dvs E0 ta t) := by
  obtain ⟨f, fd, ds, h1, h2, h3, h4⟩ := F.ex
  exact pe_meth he T h1 (calmed h4) hr h3 h2 pass0 ha star plain ht
theorem pe_mkd (F : CalCd X.prog X.w X.K X.mg X.base C x k ps dvs sp) (hr : Room (k + 1) X.A) (hg : Gl X x) (ha : PA X (e :: es) t) (hdb : (x == ("__debug__" : Str)) = false := by decide) (he : starEach (e :: es) X.env = (false, eval e X.env) :: starEach es X.env := by rfl) (hpl : (backTo pos (starEach es X.env)).any (·.1) = false := by rfl) :
    PE X (.Call (.Name x p) (e :: es) [] pos) (tMake C (fun vs H Q _ => sp vs H Q (fun _ _ _ => False)) dvs E0 t) := by
  obtain ⟨f, fd, ds, h0, h1, h2, h3, h4⟩ := F.ex
  exact pe_make h1 (calmed h4) hr hg h0 h3 h2 pass0 ha hdb he hpl
end
/-- the promise without a wish of raising -/
abbrev noE (sp : Sp) : Sp := fun vs H Q _ => sp vs H Q (fun _ _ _ => False)
section
variable {P : Program} {w : World} {K : PySem.W.Frag} {mg : Str → Option Value} {base : Heap} {C : Addr} {x m : Str} {k : Nat} {ps : List Str} {sp : Sp}
theorem CalX.toC (F : CalX P w K mg base x k ps sp) : Cal P w K mg base x k ps (noE sp) := by
  obtain ⟨f, fd, h1, h2, h3, h4, h5⟩ := F.ex
  exact ⟨f, fd, h1, h2, h3, calmed h4, h5⟩
theorem CalMX.toM (F : CalMX P w K mg base C m k ps sp) : CalM P w K mg base C m k ps (noE sp) := by
  obtain ⟨f, fd, h1, h2, h3⟩ := F.ex
  exact ⟨f, fd, h1, h2, calmed h3⟩
theorem CalCX.toC (F : CalCX P w K mg base C x k ps sp) : CalC P w K mg base C x k ps (noE sp) := by
  obtain ⟨f, fd, h1, h2, h3, h4⟩ := F.ex
  exact ⟨f, fd, h1, h2, h3, calmed h4⟩
end
/-! walked -/
section
variable {K : PySem.W.Frag} {σ : L2.St} {H : Hp} {Q : VK} {E : XK} {ta te : TE} {t : TA} {B : Hp} {M : List (Addr × HO)} {p : Addr} {C : Addr} {m : Str} {sp : Sp} {dvs : List V} {D : Ends} {xs : List V}
def MethD (C : Addr) (m : Str) (sp : Sp) (dvs : List V) (E : XK) (y : V) (t : TA) (σ : L2.St) (H1 : Hp) (Q : VK) : Prop := ∃ p dx fs, y = .ref p ∧ H1 p = some (.ins C dx fs) ∧ fs.lookup m = none ∧ t σ H1 fun vs H2 => sp (y :: (vs ++ dvs)) H2 Q E
theorem w_methd (k : ta σ H fun x H1 => MethD C m sp dvs E x t σ H1 Q) : tMeth C m sp dvs E ta t σ H Q := k
theorem w_methdE {dx : Addr} {fs : List (Str × V)} (h : H p = some (.ins C dx fs)) (hm : fs.lookup m = none) (k : t σ H fun vs H2 => sp (.ref p :: (vs ++ dvs)) H2 Q E) : MethD C m sp dvs E (.ref p) t σ H Q := ⟨p, dx, fs, rfl, h, hm, k⟩
def MakeD (C : Addr) (sp : Sp) (dvs : List V) (E : XK) (vs : List V) (H : Hp) (Q : VK) : Prop := ∀ x dx, H x = none → H dx = none → dx ≠ x → sp (.ref x :: (vs ++ dvs)) (upd (upd H dx (.own x)) x (.ins C dx [])) (fun v H2 => v = .non ∧ Q (.ref x) H2) E
theorem w_maked (k : t σ H fun vs H1 => MakeD C sp dvs E vs H1 Q) : tMake C sp dvs E t σ H Q := k
theorem w_makedE {vs : List V} (S : Hs B M H) (k : ∀ x dx H', Hs B ((x, .ins C dx []) :: (dx, .own x) :: M) H' → sp (.ref x :: (vs ++ dvs)) H' (fun v H2 => v = .non ∧ Q (.ref x) H2) E) : MakeD C sp dvs E vs H Q := fun x dx hx hd ne =>
  k x dx _ ((S.new hd (.own x)).new (by rw [upd_ne ne.symm]; exact hx) _)
/-! ### xs[i] += e -/
/-- an item of a list, read by a place that is not below 0 -/
def rGet (K : PySem.W.Frag) : V → V → Hp → VK → Prop := fun o i H Q => ∃ p xs j v, o = .ref p ∧ i = .int j ∧ SqL K H p xs ∧ 0 ≤ j ∧ xs[j.toNat]? = some v ∧ Q v H
theorem get_list {X : Cx} (K : PySem.W.Frag) (e : X.K = K := by rfl) : PGet X (rGet K) := by
  subst e
  intro pl0 s σ H o i ov iv Q I ro ri h
  obtain ⟨p, xs, j, v, rfl, rfl, hq, h0, hv, q⟩ := h
  cases ro
  obtain ⟨t, rfl⟩ := ri
  obtain ⟨items, rv, plain, hz⟩ := I.list hq
  obtain ⟨u, hu, ru⟩ := rv.get hv
  have hl := rv.length
  have hj := (List.getElem?_eq_some_iff.mp hv).1
  have big := line63
  exact wpAny_getItem_list plain.isList h0 (by omega) (by simpa using hu) ⟨v, H, I, ru, q⟩
def AugG (K : PySem.W.Frag) (te : TE) (tip : TIp) (o i : V) (D : Ends) (σ : L2.St) (H : Hp) : Prop := rGet K o i H fun x H3 => te σ H3 fun y H4 => tip x y H4 fun z H5 => rSetL o i z H5 fun H6 => D.nx σ H6
theorem w_augS {to ti : TE} {tip : TIp} (k : to σ H fun o H1 => ti σ H1 fun i H2 => AugG K te tip o i D σ H2) : tAugS to ti te (rGet K) tip rSetL D σ H := k
theorem w_augGE {tip : TIp} {j : Int} {v : V} (h : SqL K H p xs) (h0 : 0 ≤ j) (hv : xs[j.toNat]? = some v) (k : te σ H fun y H4 => tip v y H4 fun z H5 => rSetL (.ref p) (.int j) z H5 fun H6 => D.nx σ H6) : AugG K te tip (.ref p) (.int j) D σ H :=
  ⟨p, xs, j, v, rfl, rfl, h, h0, hv, k⟩
theorem w_ipI {f : Int → Int → Int} {i j : Int} (k : Q (.int (f i j)) H) : ipI f (.int i) (.int j) H Q := ⟨i, j, rfl, rfl, k⟩
/-- name op= e -/
def AugN (i : Nat) (x : V) (te : TE) (ti : TIp) (D : Ends) (σ : L2.St) (H : Hp) : Prop := te σ H fun y H1 => ti x y H1 fun z H2 => D.nx (σ.set i (some z)) H2
/-! ### divmod -/
def rDvm : List V → Hp → VK → Prop := fun xs H Q => ∃ i j, xs = [.int i, .int j] ∧ CDiv i j ∧ ∀ p, H p = none → Q (.ref p) (upd H p (.tup [.int (i / j), .int (i % j)]))
theorem call_dvm {X : Cx} : CallR X (.builtin "divmod") rDvm := call_divmod
theorem w_dvm {i j : Int} (S : Hs B M H) (h0 : 0 < j) (h1 : j < 1073741824) (k : ∀ p H', Hs B ((p, .tup [.int (i / j), .int (i % j)]) :: M) H' → Q (.ref p) H') : rDvm [.int i, .int j] H Q := ⟨i, j, rfl, ⟨h0, h1⟩, fun p hp => k p _ (S.new hp _)⟩
/-! ### a comprehension over zip(xs, ys), the pair a cell -/
theorem lc_Z {a b : Addr} {xs ys : List V} {g : TG} {tt : TT} {vs : List Nat} (S : Hs B M H) (hx : B a = some (.lst xs)) (hy : B b = some (.lst ys)) (hxy : xs.length = ys.length) (Pv : Nat → Hp → List V → Prop) (h0 : Pv 0 B [])
    (hs : ∀ (i : Nat) (x y : V) (E T : Addr) (B' : Hp) (acc : List V) (H' : Hp), xs[i]? = some x → ys[i]? = some y → acc.length ≤ i → Same B B' → Hs B' ((T, .tup [x, y]) :: (E, .lst acc) :: M) H' → Pv i B' acc → g (.ref T) (wipe σ vs) H' fun σ2 H2 => wipe σ2 vs = wipe σ vs ∧ tt σ2 H2 fun b H3 =>
      if b = true then te σ2 H3 fun y H4 => LcP B M Pv (i + 1) E y H4 else LcN B M Pv (i + 1) E H3)
    (hd : ∀ (E : Addr) (B' : Hp) (acc : List V) (H' : Hp), Same B B' → Hs B' ((E, .lst acc) :: M) H' → acc.length ≤ xs.length → Pv xs.length B' acc → Q (.ref E) H') : LcJ (Itz K a b) g tt te vs σ H Q :=
  lc_by (walk_zip (K := K) (a := a) (b := b) (xs := xs) (ys := ys) (n := xs.length) (by omega)) S Pv h0 (fun B' H' e S' => ⟨sqL_of (S'.ex _ _ (e _ _ hx)), sqL_of (S'.ex _ _ (e _ _ hy))⟩) (fun i x E B' acc H' H'' _ hl e S' pv y => by
    obtain ⟨T, u, z, rfl, h2, rfl, e1, e2⟩ := y
    exact hs i u z E T B' acc _ e1 e2 hl e (S'.new h2 _) pv) hd
end

theorem ixN_nat {n i : Nat} (h : i < n) : ixN n (i : Int) = some i := by
  unfold ixN
  rw [if_pos (by omega)]
  simp [h]
/-! ### vectors: one number a place -/
def vec (n : Nat) (f : Nat → Int) : List Int := (List.range n).map f
section
variable {n : Nat} {f g : Nat → Int}
@[simp] theorem vec_len : (vec n f).length = n := by unfold vec; simp
theorem vec_get {i : Nat} (h : i < n) : (vec n f)[i]? = some (f i) := by unfold vec; simp [h]
theorem vec_getV {i : Nat} (h : i < n) : ((vec n f).map V.int)[i]? = some (.int (f i)) := by rw [List.getElem?_map, vec_get h]; rfl
theorem vec_congr (h : ∀ i, i < n → f i = g i) : vec n f = vec n g := by
  unfold vec
  exact List.map_congr_left fun i hi => h i (List.mem_range.mp hi)
theorem vec_inj (h : vec n f = vec n g) : ∀ i, i < n → f i = g i := fun i hi => by
  have e := vec_get (f := f) hi
  rw [h, vec_get hi] at e
  exact (Option.some.inj e).symm
def put1 (f : Nat → Int) (j : Nat) (v : Int) : Nat → Int := fun i => if i = j then v else f i
theorem vec_set {j : Nat} {v : Int} (h : j < n) : (vec n f).set j v = vec n (put1 f j v) := by
  refine List.ext_getElem? fun i => ?_
  by_cases hi : i < n
  · rw [vec_get hi]
    by_cases hij : i = j
    · subst hij
      rw [List.getElem?_set_self (by simp; omega)]
      unfold put1; rw [if_pos rfl]
    · rw [List.getElem?_set_ne (Ne.symm hij), vec_get hi]
      unfold put1; rw [if_neg hij]
  · rw [List.getElem?_eq_none (by simp; omega), List.getElem?_eq_none (by simp; omega)]
theorem vec_setV {j : Nat} {v : Int} (h : j < n) : ((vec n f).map V.int).set j (.int v) = (vec n (put1 f j v)).map V.int := by
  rw [← vec_set h, List.map_set]
theorem vec_zero : List.replicate n (0 : Int) = vec n (fun _ => 0) := by
  refine List.ext_getElem? fun i => ?_
  by_cases hi : i < n
  · rw [vec_get hi, List.getElem?_replicate, if_pos hi]
  · rw [List.getElem?_eq_none (by simp; omega), List.getElem?_eq_none (by simp; omega)]
theorem vec_succ : vec (n + 1) f = vec n f ++ [f n] := by unfold vec; rw [List.range_succ, List.map_append]; rfl
end
end Rw

/-! Rw: hands, walkers and how often places are left. -/
namespace Rw
/-! ### sums over places -/
def sumN : Nat → (Nat → Int) → Int
  | 0, _ => 0
  | n + 1, f => sumN n f + f n
theorem sumN_congr {f g : Nat → Int} : ∀ {n : Nat}, (∀ i, i < n → f i = g i) → sumN n f = sumN n g
  | 0, _ => rfl
  | n + 1, h => by
    show sumN n f + f n = sumN n g + g n
    rw [sumN_congr fun i hi => h i (Nat.lt_succ_of_lt hi), h n (Nat.lt_succ_self n)]
theorem sumN_add (f g : Nat → Int) : ∀ n : Nat, sumN n (fun i => f i + g i) = sumN n f + sumN n g
  | 0 => rfl
  | n + 1 => by
    show sumN n (fun i => f i + g i) + (f n + g n) = (sumN n f + f n) + (sumN n g + g n)
    rw [sumN_add f g n]; omega
theorem sumN_one {f g : Nat → Int} {j : Nat} {d : Int} : ∀ {n : Nat}, j < n → (∀ i, i ≠ j → g i = f i) → g j = f j + d → sumN n g = sumN n f + d
  | 0, h, _, _ => absurd h (Nat.not_lt_zero _)
  | n + 1, h, h1, h2 => by
    show sumN n g + g n = sumN n f + f n + d
    by_cases e : j = n
    · subst e
      rw [h2, sumN_congr (f := g) (g := f) fun i hi => h1 i (Nat.ne_of_lt hi)]; omega
    · rw [sumN_one (n := n) (by omega) h1 h2, h1 n (fun z => e z.symm)]; omega
theorem sumN_le {f g : Nat → Int} : ∀ {n : Nat}, (∀ i, i < n → f i ≤ g i) → sumN n f ≤ sumN n g
  | 0, _ => Int.le_refl _
  | n + 1, h => by
    show sumN n f + f n ≤ sumN n g + g n
    have := sumN_le (n := n) fun i hi => h i (Nat.lt_succ_of_lt hi)
    have := h n (Nat.lt_succ_self n)
    omega
theorem sumN_const (c : Int) : ∀ n : Nat, sumN n (fun _ => c) = c * n
  | 0 => by simp [sumN]
  | n + 1 => by
    show sumN n (fun _ => c) + c = _
    rw [sumN_const c n, Int.natCast_add, Int.mul_add]
    simp
theorem sumN_zero (n : Nat) : sumN n (fun _ => 0) = 0 := by rw [sumN_const, Int.zero_mul]
theorem sum_append_int (xs ys : List Int) : (xs ++ ys).sum = xs.sum + ys.sum := by
  induction xs with
  | nil => simp
  | cons x xs ih => simp only [List.cons_append, List.sum_cons, ih]; omega
theorem sum_vec (f : Nat → Int) : ∀ n : Nat, (vec n f).sum = sumN n f
  | 0 => rfl
  | n + 1 => by
    rw [vec_succ, sum_append_int, sum_vec f n]
    show sumN n f + (f n + 0) = sumN n f + f n
    omega

/-! ### where the next ones go -/
/-- of m walkers who leave by the ways r, the hand at h first, so many come to v -/
def arr (r : List Int) (h : Int) : Nat → Int → Int
  | 0, _ => 0
  | m + 1, v => arr r h m v + (if r.getD ((h + m) % r.length).toNat (-1) = v then 1 else 0)
theorem arr_add (r : List Int) (h : Int) (a : Nat) (v : Int) : ∀ b : Nat, arr r h (a + b) v = arr r h a v + arr r (h + a) b v
  | 0 => by show arr r h a v = arr r h a v + 0; omega
  | b + 1 => by
    show arr r h (a + b) v + _ = arr r h a v + (arr r (h + a) b v + _)
    rw [arr_add r h a v b]
    have e : h + ((a.add b : Nat) : Int) = h + (a : Int) + (b : Int) := by show h + ((a + b : Nat) : Int) = _; omega
    rw [e]; omega
theorem arr_mod (r : List Int) (h : Int) (v : Int) : ∀ m : Nat, arr r (h % r.length) m v = arr r h m v
  | 0 => rfl
  | m + 1 => by
    show arr r (h % r.length) m v + _ = arr r h m v + _
    rw [arr_mod r h v m]
    have e : (h % (r.length : Int) + (m : Int)) % (r.length : Int) = (h + (m : Int)) % (r.length : Int) := by rw [Int.add_emod, Int.emod_emod_of_dvd _ (Int.dvd_refl _), ← Int.add_emod]
    rw [e]
theorem arr_pre (r : List Int) (v : Int) : ∀ m : Nat, m ≤ r.length → arr r 0 m v = ((r.take m).count v : Nat)
  | 0, _ => by simp [arr]
  | m + 1, h => by
    show arr r 0 m v + _ = _
    rw [arr_pre r v m (by omega)]
    have e : ((0 : Int) + (m : Int)) % (r.length : Int) = (m : Int) := by rw [Int.zero_add]; exact Int.emod_eq_of_lt (by omega) (by omega)
    rw [e, Int.toNat_natCast, List.take_add_one, List.count_append, List.getElem?_eq_getElem (show m < r.length by omega)]
    rw [List.getD_eq_getElem?_getD, List.getElem?_eq_getElem (show m < r.length by omega)]
    simp only [Option.getD_some, Option.toList_some, List.count_singleton, Int.natCast_add]
    by_cases hv : r[m] = v
    · simp [hv]
    · simp [hv]
theorem arr_one (r : List Int) (h : Int) (v : Int) : arr r h 1 v = if r.getD (h % r.length).toNat (-1) = v then 1 else 0 := by
  show (0 : Int) + (if r.getD ((h + ((0 : Nat) : Int)) % r.length).toNat (-1) = v then 1 else 0) = _
  rw [show h + ((0 : Nat) : Int) = h by omega, Int.zero_add]
theorem arr_round (r : List Int) (v : Int) : ∀ h : Nat, arr r h r.length v = (r.count v : Nat)
  | 0 => by have := arr_pre r v r.length (Nat.le_refl _); rw [List.take_length] at this; exact this
  | h + 1 => by
    rw [← arr_round r v h]
    have a := arr_add r h 1 v r.length
    have b := arr_add r h r.length v 1
    rw [Nat.add_comm 1] at a
    rw [a] at b
    rw [arr_one, arr_one] at b
    have e : ((h : Int) + (r.length : Int)) % (r.length : Int) = (h : Int) % (r.length : Int) := Int.add_emod_right ..
    rw [e] at b
    have e2 : ((h + 1 : Nat) : Int) = (h : Int) + ((1 : Nat) : Int) := by omega
    rw [e2]
    omega
theorem arr_rounds (r : List Int) (v : Int) (h : Int) (h0 : 0 ≤ h) : ∀ (q m : Nat), arr r h (q * r.length + m) v = q * (r.count v : Nat) + arr r h m v
  | 0, m => by rw [Nat.zero_mul, Nat.zero_add]; simp
  | q + 1, m => by
    have e : (q + 1) * r.length + m = r.length + (q * r.length + m) := by rw [Nat.add_mul]; omega
    rw [e, arr_add]
    have h1 : arr r h r.length v = (r.count v : Nat) := by
      have := arr_round r v h.toNat
      rwa [Int.toNat_of_nonneg h0] at this
    have h2 : arr r (h + r.length) (q * r.length + m) v = arr r h (q * r.length + m) v := by
      rw [← arr_mod, Int.add_emod_right, arr_mod]
    rw [h1, h2, arr_rounds r v h h0 q m, Int.natCast_add, Int.add_mul]
    omega
theorem arr_nn (r : List Int) (h : Int) (v : Int) : ∀ m : Nat, 0 ≤ arr r h m v
  | 0 => Int.le_refl _
  | m + 1 => by
    show 0 ≤ arr r h m v + _
    have := arr_nn r h v m
    split <;> omega

/-! ### the state by how often each place is left -/
def rowOf (rows : List (List Int)) (i : Nat) : List Int := rows.getD i []
def degOf (rows : List (List Int)) (i : Nat) : Nat := (rowOf rows i).length
theorem rowOf_get {rows : List (List Int)} {i : Nat} (h : i < rows.length) : rows[i]? = some (rowOf rows i) := by
  unfold rowOf; rw [List.getD_eq_getElem?_getD, List.getElem?_eq_getElem h]; rfl
/-- hands -/
def hx (rows : List (List Int)) (h0 : Nat → Int) (x : Nat → Nat) (i : Nat) : Int := (h0 i + x i) % (degOf rows i : Nat)
/-- walkers -/
def wx (rows : List (List Int)) (h0 p : Nat → Int) (x : Nat → Nat) (v : Nat) : Int := p v + sumN rows.length (fun u => arr (rowOf rows u) (h0 u) (x u) v) - x v
/-- the place to which the hand points -/
def ptx (rows : List (List Int)) (h0 : Nat → Int) (x : Nat → Nat) (i : Nat) : Int := (rowOf rows i).getD (hx rows h0 x i).toNat (-1)
def up (x : Nat → Nat) (i t : Nat) : Nat → Nat := fun j => if j = i then x j + t else x j
section
variable {rows : List (List Int)} {h0 p : Nat → Int} {x : Nat → Nat} {i t v : Nat}
theorem up_same : up x i t i = x i + t := by unfold up; rw [if_pos rfl]
theorem up_ne {j : Nat} (h : j ≠ i) : up x i t j = x j := by unfold up; rw [if_neg h]
theorem up_zero : up x i 0 = x := by
  funext j
  unfold up
  split <;> rfl
theorem up_up {s : Nat} : up (up x i t) i s = up x i (t + s) := by
  funext j
  unfold up
  split <;> omega
theorem hx_up : hx rows h0 (up x i t) = put1 (hx rows h0 x) i ((hx rows h0 x i + t) % (degOf rows i : Nat)) := by
  funext j
  unfold put1 hx
  by_cases h : j = i
  · subst h
    rw [if_pos rfl, up_same, Int.natCast_add, ← Int.add_assoc, Int.emod_add_emod]
  · rw [if_neg h, up_ne h]
theorem wx_up (hi : i < rows.length) : wx rows h0 p (up x i t) v = wx rows h0 p x v - (if v = i then (t : Int) else 0) + arr (rowOf rows i) (hx rows h0 x i) t v := by
  unfold wx
  rw [sumN_one (f := fun u => arr (rowOf rows u) (h0 u) (x u) v) (j := i) (d := arr (rowOf rows i) (hx rows h0 x i) t v) hi (fun j hj => by rw [up_ne hj]) ?_]
  · by_cases h : v = i
    · subst h
      rw [up_same, if_pos rfl]; omega
    · rw [up_ne h, if_neg h]; omega
  · show arr (rowOf rows i) (h0 i) (up x i t i) v = _
    rw [up_same, arr_add]
    unfold hx degOf
    rw [arr_mod]
theorem wx_up1 (hi : i < rows.length) : wx rows h0 p (up x i 1) v = wx rows h0 p x v - (if v = i then 1 else 0) + (if ptx rows h0 x i = v then 1 else 0) := by
  rw [wx_up hi, arr_one]
  have e : hx rows h0 x i % ((rowOf rows i).length : Nat) = hx rows h0 x i := by unfold hx degOf; exact Int.emod_emod_of_dvd _ (Int.dvd_refl _)
  rw [e]
  rfl
end
/-- hands that are some -/
def Hands (rows : List (List Int)) (h0 : Nat → Int) : Prop := ∀ i, i < rows.length → 0 ≤ h0 i ∧ (h0 i < degOf rows i ∨ h0 i = 0)
section
variable {rows : List (List Int)} {h0 p : Nat → Int} {x : Nat → Nat} {i t v : Nat}
theorem hx_zero (hh : Hands rows h0) (hi : i < rows.length) : hx rows h0 (fun _ => 0) i = h0 i := by
  unfold hx
  have h := hh i hi
  rw [show ((0 : Nat) : Int) = 0 from rfl, Int.add_zero]
  rcases h.2 with h2 | h2
  · exact Int.emod_eq_of_lt h.1 (by exact_mod_cast h2)
  · rw [h2, Int.zero_emod]
theorem wx_zero : wx rows h0 p (fun _ => 0) v = p v := by
  unfold wx
  have e : sumN rows.length (fun u => arr (rowOf rows u) (h0 u) ((fun _ => 0 : Nat → Nat) u) v) = 0 := (sumN_congr (g := fun _ => 0) fun u _ => rfl).trans (sumN_zero _)
  rw [e]
  show p v + 0 - ((0 : Nat) : Int) = p v
  omega
theorem hx_range (hd : 0 < degOf rows i) : 0 ≤ hx rows h0 x i ∧ hx rows h0 x i < (degOf rows i : Nat) := by
  unfold hx
  exact ⟨Int.emod_nonneg _ (by omega), Int.emod_lt_of_pos _ (by omega)⟩
theorem ptx_get (hd : 0 < degOf rows i) : (rowOf rows i)[(hx rows h0 x i).toNat]? = some (ptx rows h0 x i) := by
  have h := hx_range (rows := rows) (h0 := h0) (x := x) hd
  have h2 : (hx rows h0 x i).toNat < (rowOf rows i).length := by unfold degOf at h; omega
  unfold ptx
  rw [List.getD_eq_getElem?_getD, List.getElem?_eq_getElem h2]; rfl
end
end Rw

/-! Rw: the steps kept, taken back; the order of cells. -/
namespace Rw
open PySem PySem.Spec PyProof.Rows L2
def xsum : List (Nat × Nat) → Nat → Nat
  | [], _ => 0
  | q :: r, i => (if i = q.1 then q.2 else 0) + xsum r i
theorem xsum_snoc {i t : Nat} : ∀ rs : List (Nat × Nat), xsum (rs ++ [(i, t)]) = up (xsum rs) i t
  | [] => by
    funext j
    show (if j = i then t else 0) + 0 = if j = i then 0 + t else 0
    split <;> omega
  | q :: rs => by
    funext j
    show (if j = q.1 then q.2 else 0) + xsum (rs ++ [(i, t)]) j = _
    rw [xsum_snoc rs]
    unfold up
    show _ = if j = i then ((if j = q.1 then q.2 else 0) + xsum rs j) + t else ((if j = q.1 then q.2 else 0) + xsum rs j)
    by_cases h : j = i
    · rw [if_pos h, if_pos h]; omega
    · rw [if_neg h, if_neg h]
theorem xsum_nil : xsum [] = fun _ => 0 := rfl
/-- the last step taken back -/
def lastOff (rs : List (Nat × Nat)) (i t : Nat) : List (Nat × Nat) := if 1 < t then rs ++ [(i, t - 1)] else rs
theorem lastOff_up {rs : List (Nat × Nat)} {i t : Nat} (h : 1 ≤ t) : up (xsum (lastOff rs i t)) i 1 = xsum (rs ++ [(i, t)]) := by
  unfold lastOff
  rw [xsum_snoc]
  by_cases h1 : 1 < t
  · rw [if_pos h1, xsum_snoc, up_up]
    congr 1; omega
  · rw [if_neg h1]
    congr 1; omega
structure YS where
  h0 : Nat → Int
  p : Nat → Int
  rs : List (Nat × Nat)
structure YOk (rows : List (List Int)) (y : YS) : Prop where
  hh : Hands rows y.h0
  rr : ∀ q ∈ y.rs, q.1 < rows.length ∧ 0 < degOf rows q.1 ∧ 1 ≤ q.2
def YS.x (y : YS) : Nat → Nat := xsum y.rs
def YS.put (y : YS) (i : Nat) (m : Int) : YS := { y with p := put1 y.p i (y.p i + m) }
def YS.more (y : YS) (i t : Nat) : YS := { y with rs := y.rs ++ [(i, t)] }
theorem YOk.put {rows : List (List Int)} {y : YS} (h : YOk rows y) (i : Nat) (m : Int) : YOk rows (y.put i m) := ⟨h.hh, h.rr⟩
theorem YOk.more {rows : List (List Int)} {y : YS} (h : YOk rows y) {i t : Nat} (h1 : i < rows.length) (h2 : 0 < degOf rows i) (h3 : 1 ≤ t) : YOk rows (y.more i t) := ⟨h.hh, fun q hq => by
  rcases List.mem_append.mp hq with z | z
  · exact h.rr q z
  · rw [List.mem_singleton.mp z]; exact ⟨h1, h2, h3⟩⟩
theorem wx_put {rows : List (List Int)} {h0 p : Nat → Int} {x : Nat → Nat} {i : Nat} {m : Int} (v : Nat) : wx rows h0 (put1 p i (p i + m)) x v = put1 (wx rows h0 p x) i (wx rows h0 p x i + m) v := by
  unfold put1 wx
  by_cases h : v = i
  · subst h; simp only [if_true]; omega
  · simp only [h, if_false]
theorem put1_same {f : Nat → Int} {i : Nat} {c : Int} : put1 f i c i = c := by unfold put1; rw [if_pos rfl]
theorem put1_ne {f : Nat → Int} {i j : Nat} {c : Int} (h : j ≠ i) : put1 f i c j = f j := by unfold put1; rw [if_neg h]
theorem Hs.perm {B H : Hp} {M M' : List (Addr × HO)} (S : Hs B M H) (h : M.Perm M') : Hs B M' H :=
  S.sub (fun c hc => h.mem_iff.mpr hc) ((h.map _).nodup_iff.mp S.nd)
/-- two groups of cells change places -/
theorem Hs.swap {B H : Hp} {A C M : List (Addr × HO)} (S : Hs B (A ++ (C ++ M)) H) : Hs B (C ++ (A ++ M)) H := S.perm (by
  rw [← List.append_assoc, ← List.append_assoc]
  exact List.perm_append_comm.append_right M)
theorem rep_int {n : Nat} : (List.replicate n [V.int 0]).flatten = (vec n (fun _ => 0)).map V.int := by
  rw [← vec_zero]
  induction n with
  | zero => rfl
  | succ n ih => rw [List.replicate_succ, List.flatten_cons, ih, List.replicate_succ]; rfl
end Rw

/-! Rw: comprehensions over cells; behind a lambda. -/
namespace Rw
open PySem PySem.Spec PyProof.Rows L2
section
variable {K : PySem.W.Frag} {σ : L2.St} {H : Hp} {Q : VK} {B : Hp} {M : List (Addr × HO)} {te : TE}
/-- a thing stands, in the still part or in a cell -/
def Stay (B : Hp) (M : List (Addr × HO)) (p : Addr) (o : HO) : Prop := ∀ B' H', Same B B' → Hs B' M H' → H' p = some o
theorem Stay.ofB {p : Addr} {o : HO} (h : B p = some o) : Stay B M p o := fun _ _ e S => S.ex _ _ (e _ _ h)
theorem Stay.ofM {p : Addr} {o : HO} (j : Nat) (h : M[j]? = some (p, o) := by rfl) : Stay B M p o := fun _ _ _ S => S.get j h
theorem Stay.at {p : Addr} {o : HO} (h : Stay B M p o) (S : Hs B M H) : H p = some o := h _ _ (Same.refl B) S
theorem Stay.up {p : Addr} {o : HO} {B' : Hp} (h : Stay B M p o) (e : Same B B') : Stay B' M p o := fun _ _ e2 S => h _ _ (e.trans e2) S
theorem Stay.cons {p : Addr} {o : HO} {c : Addr × HO} (h : Stay B M p o) : Stay B (c :: M) p o := fun _ _ e S => h _ _ e (S.drop 0)
/-- over enumerate(xs) -/
theorem lc_ES {a : Addr} {ys : List V} {g : TG} {tt : TT} {vs : List Nat} (S : Hs B M H) (hx : Stay B M a (.lst ys)) (Pv : Nat → Hp → List V → Prop) (h0 : Pv 0 B [])
    (hs : ∀ (i : Nat) (x : V) (E T : Addr) (B' : Hp) (acc : List V) (H' : Hp), ys[i]? = some x → acc.length ≤ i → Same B B' → Hs B' ((T, .tup [.int (i : Int), x]) :: (E, .lst acc) :: M) H' → Pv i B' acc → g (.ref T) (wipe σ vs) H' fun σ2 H2 => wipe σ2 vs = wipe σ vs ∧ tt σ2 H2 fun b H3 =>
      if b = true then te σ2 H3 fun y H4 => LcP B M Pv (i + 1) E y H4 else LcN B M Pv (i + 1) E H3)
    (hd : ∀ (E : Addr) (B' : Hp) (acc : List V) (H' : Hp), Same B B' → Hs B' ((E, .lst acc) :: M) H' → acc.length ≤ ys.length → Pv ys.length B' acc → Q (.ref E) H') : LcJ (Ite K a) g tt te vs σ H Q :=
  lc_by (walk_enum (K := K) (a := a) (xs := ys)) S Pv h0 (fun B' H' e S' => sqL_of (hx _ _ e S')) (fun i x E B' acc H' H'' _ hl e S' pv y => by
    obtain ⟨T, u, z, rfl, h2, rfl, e1, e2⟩ := y
    cases e1
    exact hs i z E T B' acc _ e2 hl e (S'.new h2 _) pv) hd
/-- over a list -/
theorem lc_LS {a : Addr} {ys : List V} {g : TG} {tt : TT} {vs : List Nat} (S : Hs B M H) (hx : Stay B M a (.lst ys)) (Pv : Nat → Hp → List V → Prop) (h0 : Pv 0 B [])
    (hs : ∀ (i : Nat) (x : V) (E : Addr) (B' : Hp) (acc : List V) (H' : Hp), ys[i]? = some x → acc.length ≤ i → Same B B' → Hs B' ((E, .lst acc) :: M) H' → Pv i B' acc → g x (wipe σ vs) H' fun σ2 H2 => wipe σ2 vs = wipe σ vs ∧ tt σ2 H2 fun b H3 =>
      if b = true then te σ2 H3 fun y H4 => LcP B M Pv (i + 1) E y H4 else LcN B M Pv (i + 1) E H3)
    (hd : ∀ (E : Addr) (B' : Hp) (acc : List V) (H' : Hp), Same B B' → Hs B' ((E, .lst acc) :: M) H' → acc.length ≤ ys.length → Pv ys.length B' acc → Q (.ref E) H') : LcJ (Itl K a) g tt te vs σ H Q :=
  lc_by (walk_list (K := K) (a := a) (xs := ys)) S Pv h0 (fun B' H' e S' => sqL_of (hx _ _ e S')) (fun i x E B' acc H' H'' _ hl e S' pv y => by
    obtain ⟨rfl, hx⟩ := y
    exact hs i x E B' acc _ hx hl e S' pv) hd
/-- over zip(xs, ys) -/
theorem lc_ZS {a b : Addr} {xs ys : List V} {g : TG} {tt : TT} {vs : List Nat} (S : Hs B M H) (hx : Stay B M a (.lst xs)) (hy : Stay B M b (.lst ys)) (hxy : xs.length = ys.length) (Pv : Nat → Hp → List V → Prop) (h0 : Pv 0 B [])
    (hs : ∀ (i : Nat) (x y : V) (E T : Addr) (B' : Hp) (acc : List V) (H' : Hp), xs[i]? = some x → ys[i]? = some y → acc.length ≤ i → Same B B' → Hs B' ((T, .tup [x, y]) :: (E, .lst acc) :: M) H' → Pv i B' acc → g (.ref T) (wipe σ vs) H' fun σ2 H2 => wipe σ2 vs = wipe σ vs ∧ tt σ2 H2 fun b H3 =>
      if b = true then te σ2 H3 fun y H4 => LcP B M Pv (i + 1) E y H4 else LcN B M Pv (i + 1) E H3)
    (hd : ∀ (E : Addr) (B' : Hp) (acc : List V) (H' : Hp), Same B B' → Hs B' ((E, .lst acc) :: M) H' → acc.length ≤ xs.length → Pv xs.length B' acc → Q (.ref E) H') : LcJ (Itz K a b) g tt te vs σ H Q :=
  lc_by (walk_zip (K := K) (a := a) (b := b) (xs := xs) (ys := ys) (n := xs.length) (by omega)) S Pv h0 (fun B' H' e S' => ⟨sqL_of (hx _ _ e S'), sqL_of (hy _ _ e S')⟩) (fun i x E B' acc H' H'' _ hl e S' pv y => by
    obtain ⟨T, u, z, rfl, h2, rfl, e1, e2⟩ := y
    exact hs i u z E T B' acc _ e1 e2 hl e (S'.new h2 _) pv) hd
/-! ### list + list, the left one of whatever standing -/
def rCatS (K : PySem.W.Frag) : R2 := fun x y H Q => ∃ a b xs ys, x = .ref a ∧ y = .ref b ∧ SqL K H a xs ∧ SqL K H b ys ∧ xs.length + ys.length ≤ sizeLine ∧ ∀ p, H p = none → Q (.ref p) (upd H p (.lst (xs ++ ys)))
theorem k_cat {X : Cx} (K : PySem.W.Frag) (e : X.K = K := by rfl) : OpR X (binaryOp .Add) (rCatS K) := by
  subst e
  intro pl s σ H x y v u Q I rx ry h
  obtain ⟨a, b, xs, ys, rfl, rfl, ha, hb, hz, q⟩ := h
  cases rx
  cases ry
  obtain ⟨its, r1, p1, z1⟩ := I.list ha
  obtain ⟨its2, r2, p2, z2⟩ := I.list hb
  have e1 := r1.length
  have e2 := r2.length
  obtain ⟨⟨c1, d1, t1, l1⟩, ho1, hc1, n1, hd1⟩ := p1.isList
  obtain ⟨⟨c2, d2, t2, l2⟩, ho2, hc2, n2, hd2⟩ := p2.isList
  simp only at hc1 hd1 hc2 hd2
  subst hc1 hd1 hc2 hd2
  have ej : its.toArray ++ its2.toArray = (its ++ its2).toArray := by simp
  refine concat_meets ⟨_, ho1, rfl⟩ ⟨_, ho2, rfl⟩ noFill_list_add seq_list_add PySem.F.slot_list_add PySem.F.entry_list_add (PySem.F.args_list_add_2 _ _) (list_addW a b its.toArray its2.toArray n1 n2 d1 d2 l1 l2 (by simp only [List.size_toArray]; omega)) ⟨ho1, ho2, ?_⟩
  rw [ej]
  exact ⟨.ref _, _, I.lnew (t' := s.toks) (r1.append r2) (by rw [List.length_append]; omega), rfl, q _ I.fresh⟩
theorem w_catS {p q : Addr} {xs ys : List V} (S : Hs B M H) (h : SqL K H p xs) (h2 : SqL K H q ys) (hl : xs.length + ys.length ≤ sizeLine) (k : ∀ z H', Hs B ((z, .lst (xs ++ ys)) :: M) H' → Q (.ref z) H') : rCatS K (.ref p) (.ref q) H Q :=
  ⟨p, q, xs, ys, rfl, rfl, h, h2, hl, fun z hz => k z _ (S.new hz _)⟩
/-! ### two things by a number 0 or 1 -/
def fset {α : Type} (f : Nat → α) (i : Nat) (v : α) : Nat → α := fun j => if j = i then v else f j
theorem fset_same {α : Type} {f : Nat → α} {i : Nat} {v : α} : fset f i v i = v := by unfold fset; rw [if_pos rfl]
theorem fset_ne {α : Type} {f : Nat → α} {i j : Nat} {v : α} (h : j ≠ i) : fset f i v j = f j := by unfold fset; rw [if_neg h]
theorem two_at {α : Type} (f : Nat → α) {i : Nat} (h : i < 2) : atI [f 0, f 1] (i : Int) = some (f i) := by
  have : i = 0 ∨ i = 1 := by omega
  rcases this with rfl | rfl <;> rfl
/-- if with a cut behind its test -/
theorem w_ifK {c : TT} {t u : TS} {D : Ends} {σ : L2.St} {H : Hp} (Pt Pf : Hp → Prop) (ht : ∀ H1, Pt H1 → t D σ H1) (hf : ∀ H1, Pf H1 → u D σ H1) (k : ∀ R : Bool → Hp → Prop, (∀ H1, Pt H1 → R true H1) → (∀ H1, Pf H1 → R false H1) → c σ H R) : tIfS c t u D σ H :=
  k _ (fun H1 h => iteT (ht H1 h)) (fun H1 h => iteF (hf H1 h))
/-- seq with a cut behind it -/
theorem w_seqK {t u : TS} {D : Ends} {σ : L2.St} {H : Hp} (Pv : L2.St → Hp → Prop) (h2 : ∀ σ' H', Pv σ' H' → u D σ' H') (k : ∀ R : L2.St → Hp → Prop, (∀ σ' H', Pv σ' H' → R σ' H') → t { D with nx := R } σ H) : tSeq t u D σ H := k (u D) h2
/-- all but what is changed -/
def minus (H : Hp) (M : List (Addr × HO)) : Hp := fun b => if b ∈ M.map (·.1) then none else H b
def AllL (M : List (Addr × HO)) : Prop := ∀ c ∈ M, ∃ xs, c.2 = .lst xs
theorem Hs.minus {M : List (Addr × HO)} (h : ∀ c ∈ M, H c.1 = some c.2) (nd : (M.map (·.1)).Nodup) : Hs (Rw.minus H M) M H := by
  refine ⟨fun b o e => ?_, fun c hc => ⟨?_, h c hc⟩, nd⟩
  · unfold Rw.minus at e
    split at e
    · cases e
    · exact e
  · unfold Rw.minus
    rw [if_pos (List.mem_map.mpr ⟨c, hc, rfl⟩)]
/-- behind a lambda: the tables have grown, the cells are as they were -/
theorem Hs.lam {H1 : Hp} {Pt : Addr} {q : Str} (S : Hs B M H) (hm : AllL M) (e : LamX.ExtN H H1) (t : LamX.TabS H1 Pt q) : ∃ B1, LamX.ExtN B B1 ∧ LamX.TabS B1 Pt q ∧ Hs B1 M H1 := by
  have keep : ∀ c ∈ M, H1 c.1 = some c.2 := fun c hc => by
    obtain ⟨xs, hx⟩ := hm c hc
    exact e _ _ (S.cel c hc).2 (by rw [hx]; intro ps z; cases z)
  have off : ∀ {b : Addr} {o : HO}, H1 b = some o → (∀ xs, o ≠ .lst xs) → b ∉ M.map (·.1) := fun {b o} hb hn hm2 => by
    obtain ⟨c, hc, rfl⟩ := List.mem_map.mp hm2
    obtain ⟨xs, hx⟩ := hm c hc
    rw [keep c hc, hx] at hb
    exact hn xs (Option.some.inj hb).symm
  refine ⟨Rw.minus H1 M, fun b o hb n => ?_, ?_, Hs.minus keep S.nd⟩
  · unfold Rw.minus
    rw [if_neg]
    · exact e b o (S.ex b o hb) n
    · intro hm2
      obtain ⟨c, hc, rfl⟩ := List.mem_map.mp hm2
      rw [(S.cel c hc).1] at hb
      cases hb
  · obtain ⟨ps, h1, h2, h3⟩ := t
    refine ⟨ps, ?_, h2, fun pos cv hc => ?_⟩
    · unfold Rw.minus
      rw [if_neg (off h1 (by intro xs z; cases z))]
      exact h1
    · obtain ⟨c, e1, e2⟩ := h3 pos cv hc
      refine ⟨c, e1, ?_⟩
      unfold Rw.minus
      rw [if_neg (off e2 (by unfold LamX.CodeO; intro xs z; cases z))]
      exact e2
end
end Rw

namespace Rw
open PySem PySem.Spec PyProof.Rows L2
def top (i : Nat) : Stmt := PySem.Challenge.pw_rotorwalk_k03_webs_refused.main.body.getD i (.Pass ⟨0, 0, 0, 0⟩)
structure Bare (mg : Str → Option Value) : Prop where
  n_len : mg "len" = none
  n_range : mg "range" = none

/-! ### numbers -/
def mixed (c k : Int) : Int :=
  let n := (c % 1000000007 * 48271 + 7919 * k + 11) % 1000003
  n * n % 1000003 * n % 1000003
theorem mixed_nn (c k : Int) : 0 ≤ mixed c k := Int.emod_nonneg _ (by decide)
theorem mixed_lt (c k : Int) : mixed c k < 1000003 := Int.emod_lt_of_pos _ (by decide)
def spMixed : Sp := fun vs H Q _ => ∃ c k : Int, vs = [.int c, .int k] ∧ 0 ≤ k ∧ k ≤ 100000 ∧ Q (.int (mixed c k)) H
-- _law_mixed: 0 _law_cell, 1 _law_k, 2 _law_number
abbrev s_law_mixed : Stmt := top 20
theorem sc_law_mixed : FnScope ["_law_cell", "_law_k", "_law_number"] ["_law_cell", "_law_k"] (defScope s_law_mixed) := ⟨rfl, rfl, rfl, by decide +kernel, rfl, by decide +kernel, by decide +kernel⟩
section
variable {P : Program} {w : World} {K : PySem.W.Frag} {mg : Str → Option Value} {base : Heap}
theorem ok_mixed (T : Bare mg) (G : Glo K mg "_law_mixed" s_law_mixed) : Cal P w K mg base "_law_mixed" 1 ["_law_cell", "_law_k"] spMixed := by
  refine G.cal (k := 0) sc_law_mixed (fun _ _ _ _ _ _ us hl => match us, hl with | [_, _], _ => rfl) (fun vs H Q E h => ?_) (fun f cdv A outer s H vs Q E hr h => ?_)
  · obtain ⟨c, k, rfl, _⟩ := h; rfl
  obtain ⟨c, k, rfl, k0, k1, hQ⟩ := h
  refine ⟨_, (pss_cons (ps_set (i := 2) sc_law_mixed.nd rfl (Or.inl rfl) (pe_op op_mod (pe_op op_add (pe_op op_add (pe_op op_mul (pe_op op_mod (pv 0) pe_int) pe_int) (pe_op op_mul pe_int (pv 1))) pe_int) pe_int)) (pss_one (ps_ret (pe_op op_mod (pe_op op_mul (pe_op op_mod (pe_op op_mul (pv 2) (pv 2)) pe_int) (pv 2)) pe_int)))), ?_⟩
  have h1 := Int.emod_nonneg c (show (1000000007 : Int) ≠ 0 by decide)
  have h2 := Int.emod_lt_of_pos c (show (0 : Int) < 1000000007 by decide)
  refine ⟨_, rfl, _, _, rfl, rfl, by show (0 : Int) < 1000000007; decide, _, _, rfl, rfl, .inr (by decide), ?_⟩
  refine ⟨_, rfl, _, _, rfl, rfl, .inl (by decide), _, _, rfl, rfl, _, _, rfl, rfl, _, _, rfl, rfl, by show (0 : Int) < 1000003; decide, ?_⟩
  have h3 := Int.emod_nonneg (c % 1000000007 * 48271 + 7919 * k + 11) (show (1000003 : Int) ≠ 0 by decide)
  have h4 := Int.emod_lt_of_pos (c % 1000000007 * 48271 + 7919 * k + 11) (show (0 : Int) < 1000003 by decide)
  refine ⟨_, rfl, _, rfl, _, _, rfl, rfl, .inl ⟨by omega, by omega⟩, _, _, rfl, rfl, by show (0 : Int) < 1000003; decide, _, rfl, _, _, rfl, rfl, .inr ⟨by omega, by omega⟩, _, _, rfl, rfl, by show (0 : Int) < 1000003; decide, hQ⟩
end
end Rw

namespace Rw
open PySem PySem.Spec PyProof.Rows L2
local macro_rules | `(tactic| walk_at "go1") => `(tactic| first
  | (with_reducible refine w_seq ?_)
  | (with_reducible refine w_asg ?_)
  | (with_reducible refine w_name ?_)
  | (with_reducible refine w_drop ?_)
  | (with_reducible refine w_ret ?_)
  | (with_reducible refine w_next ?_)
  | (with_reducible refine w_op ?_)
  | (with_reducible refine w_un ?_)
  | (with_reducible refine w_c ?_)
  | (with_reducible refine w_var (by with_unfolding_all rfl) ?_)
  | (with_reducible refine w_rI0 ?_)
  | (with_reducible refine w_rU ?_)
  | ((with_reducible refine w_mod ?_ ?_); (show (0 : Int) < _); omega)
  | ((with_reducible refine w_div ?_ ?_); exact And.intro (by omega) (by omega))
  | ((with_reducible refine w_mul ?_ ?_); (first | exact Or.inl (And.intro (by omega) (by omega)) | exact Or.inr (And.intro (by omega) (by omega))))
  | (with_reducible refine w_ifS ?_)
  | (with_reducible refine w_if ?_)
  | (with_reducible refine w_test ?_)
  | (with_reducible refine w_B ?_)
  | (with_reducible refine w_bl ?_)
  | (with_reducible refine w_not ?_)
  | (with_reducible refine w_and ?_)
  | (with_reducible refine w_or ?_)
  | (with_reducible refine w_cons ?_)
  | (with_reducible refine w_nil ?_)
  | (with_reducible refine w_call ?_)
  | (with_reducible refine w_cb ?_)
  | (with_reducible refine w_bm0 ?_)
  | (with_reducible refine w_bm ?_)
  | (with_reducible refine w_tlst ?_)
  | (with_reducible refine w_ttup ?_)
  | (with_reducible refine w_sub ?_)
  | (with_reducible refine w_for ?_)
  | (with_reducible refine w_rng1 ?_)
  | ((with_reducible refine w_rngE ?_ ?_ ?_); omega; omega)
  | (with_reducible refine w_iL ?_)
  | (with_reducible refine w_iT ?_)
  | (with_reducible refine w_iE ?_)
  | (with_reducible refine w_iZ ?_)
  | (with_reducible refine w_lc ?_)
  | (with_reducible refine w_yes ?_)
  | (with_reducible refine w_gcons ?_)
  | (with_reducible refine w_gnil ?_)
  | (with_reducible refine w_max2 ?_)
  | (with_reducible refine w_sl ?_)
  | (with_reducible refine w_part ?_)
  | (with_reducible refine w_partI ?_)
  | (with_reducible refine w_nopart ?_)
  | (with_reducible refine w_isT ?_)
  | (with_reducible refine w_notT ?_)
  | (with_reducible refine w_isB ?_)
  | (with_reducible refine w_notB ?_)
  | (with_reducible refine w_isN ?_)
  | (with_reducible refine w_notN ?_)
  | (with_reducible refine w_fld ?_)
  | (with_reducible refine w_ftm ?_)
  | (with_reducible refine w_lrg ?_)
  | (with_reducible refine w_rg1 ?_)
  | (with_reducible refine w_rg1E ?_)
  | (with_reducible refine w_tru ?_)
  | (with_reducible refine w_truB ?_)
  | (with_reducible refine w_truI ?_)
  | (with_reducible refine w_notT' ?_)
  | (with_reducible refine w_andT ?_)
  | (with_reducible refine w_orT ?_)
  | (with_reducible refine w_andV ?_)
  | (with_reducible refine w_orV ?_)
  | (with_reducible refine w_andE ?_)
  | (with_reducible refine w_orE ?_)
  | (with_reducible refine w_notV ?_)
  | (with_reducible refine w_notE ?_)
  | (with_reducible refine w_chain ?_)
  | (with_reducible refine w_chainI ?_)
  | (with_reducible refine w_meth ?_)
  | (with_reducible refine w_make ?_)
  | (with_reducible refine w_sfld ?_))
local macro_rules | `(tactic| walk_at "go") => `(tactic| repeat walk_at "go1")

/-! ### webs -/
def cnt (m : Int) : Int := [2, 1, 3, 2, 0].getD m.toNat 0
def farAt (c k n i j : Int) : Int :=
  if mixed c (k + 20 + 3 * i + j) % 3 = 0 then (i + 1) % n else mixed c (k + 20 + 3 * i + j) / 3 % n
def rowAt (c k n : Int) (i : Nat) : List Int := (List.range (cnt (mixed c (k + 1 + i) % 5)).toNat).map fun j => farAt c k n i (j : Nat)
theorem cnt_at {m : Int} (h0 : 0 ≤ m) (h1 : m < 5) : atI [V.int 2, V.int 1, V.int 3, V.int 2, V.int 0] m = some (V.int (cnt m)) := by
  have : m = 0 ∨ m = 1 ∨ m = 2 ∨ m = 3 ∨ m = 4 := by omega
  rcases this with rfl | rfl | rfl | rfl | rfl <;> rfl
theorem cnt_le (m : Int) : 0 ≤ cnt m ∧ cnt m ≤ 3 := by
  unfold cnt
  generalize m.toNat = t
  match t with
  | 0 => decide
  | 1 => decide
  | 2 => decide
  | 3 => decide
  | 4 => decide
  | t + 5 => show (0 : Int) ≤ 0 ∧ (0 : Int) ≤ 3; decide
theorem three_at {x y : Int} {m : Int} (h0 : 0 ≤ m) (h1 : m < 3) : atI [V.int x, V.int y, V.int y] m = some (V.int (if m = 0 then x else y)) := by
  have : m = 0 ∨ m = 1 ∨ m = 2 := by omega
  rcases this with rfl | rfl | rfl <;> rfl
theorem snoc_map {α : Type} (f : Nat → α) (i : Nat) : (List.range (i + 1)).map f = (List.range i).map f ++ [f i] := by
  rw [List.range_succ, List.map_append]; rfl
def manyOf (c k : Int) : Nat := (1 + mixed c k % 8).toNat
def rows (c k : Int) : List (List Int) :=
  let b := (List.range (manyOf c k)).map (rowAt c k (1 + mixed c k % 8))
  if 0 < mixed c k / 8 % 5 then b.set (manyOf c k - 1) [] else b
def spRows (K : PySem.W.Frag) : Sp := fun vs H Q _ => ∃ (c k : Int) (B : Hp) (M : List (Addr × HO)), vs = [.int c, .int k] ∧ 0 ≤ k ∧ k ≤ 10000 ∧ Hs B M H ∧
  ∀ p B' H', Same B B' → Hs B' M H' → LL B' p (rows c k) → Q (.ref p) H'
-- _law_rows: 0 _law_cell, 1 _law_k, 2 _law_number, 3 _law_many, 4 _law_rows_here, 5 _law_place, 6 _law_more, 7 _law_row, 8 _law_j, 9 _law_far
abbrev s_law_rows : Stmt := top 22
theorem sc_law_rows : FnScope ["_law_cell", "_law_k", "_law_number", "_law_many", "_law_rows_here", "_law_place", "_law_more", "_law_row", "_law_j", "_law_far"] ["_law_cell", "_law_k"] (defScope s_law_rows) := ⟨rfl, rfl, rfl, by decide +kernel, rfl, by decide +kernel, by decide +kernel⟩
section
variable {P : Program} {w : World} {K : PySem.W.Frag} {mg : Str → Option Value} {base : Heap}
theorem ok_rows (T : Bare mg) (G : Glo K mg "_law_rows" s_law_rows) (C_law_mixed : Cal P w K mg base "_law_mixed" 1 ["_law_cell", "_law_k"] spMixed) : Cal P w K mg base "_law_rows" 2 ["_law_cell", "_law_k"] (spRows K) := by
  refine G.cal (k := 1) sc_law_rows (fun _ _ _ _ _ _ us hl => match us, hl with | [_, _], _ => rfl) (fun vs H Q E h => ?_) (fun f cdv A outer s H vs Q E hr h => ?_)
  · obtain ⟨c, k, B, M, rfl, _⟩ := h; rfl
  obtain ⟨c, k, B, M, rfl, k0, k1, S, hQ⟩ := h
  refine ⟨_, (pss_cons (ps_set (i := 2) sc_law_rows.nd rfl (Or.inl rfl) (pe_cal C_law_mixed hr rfl (pa_cons (pv 0) (pa_cons (pv 1) pa_nil)))) (pss_cons (ps_set (i := 3) sc_law_rows.nd rfl (Or.inl rfl) (pe_op op_add pe_int (pe_op op_mod (pv 2) pe_int))) (pss_cons (ps_set (i := 4) sc_law_rows.nd rfl (Or.inl rfl) (pe_lst pa_nil)) (pss_cons (ps_for PassesOwn.never rfl (pi_range1 rfl T.n_range (pa_cons (pv 3) pa_nil)) (pg_name (i := 5) sc_law_rows.nd rfl (Or.inl rfl)) (pss_cons (ps_set (i := 6) sc_law_rows.nd rfl (Or.inl rfl) (pe_cal C_law_mixed hr rfl (pa_cons (pv 0) (pa_cons (pe_op op_add (pe_op op_add (pv 1) pe_int) (pv 5)) pa_nil)))) (pss_cons (ps_set (i := 7) sc_law_rows.nd rfl (Or.inl rfl) (pe_lst pa_nil)) (pss_cons (ps_for PassesOwn.never rfl (pi_range1 rfl T.n_range (pa_cons (pe_ix (k_ixL K) (pe_lst (pa_cons pe_int (pa_cons pe_int (pa_cons pe_int (pa_cons pe_int (pa_cons pe_int pa_nil)))))) (pe_op op_mod (pv 6) pe_int) (fun _ _ => rfl)) pa_nil)) (pg_name (i := 8) sc_law_rows.nd rfl (Or.inl rfl)) (pss_cons (ps_set (i := 9) sc_law_rows.nd rfl (Or.inl rfl) (pe_cal C_law_mixed hr rfl (pa_cons (pv 0) (pa_cons (pe_op op_add (pe_op op_add (pe_op op_add (pv 1) pe_int) (pe_op op_mul pe_int (pv 5))) (pv 8)) pa_nil)))) (pss_one (ps_expr (pe_bmK K PySem.F.plainAttrs_list PySem.F.slot_list_append PySem.F.type_list_append mt_append (pv 7) (pa_cons (pe_ix (k_ixL K) (pe_lst (pa_cons (pe_op op_mod (pe_op op_add (pv 5) pe_int) (pv 3)) (pa_cons (pe_op op_mod (pe_op op_fdiv (pv 9) pe_int) (pv 3)) (pa_cons (pe_op op_mod (pe_op op_fdiv (pv 9) pe_int) (pv 3)) pa_nil)))) (pe_op op_mod (pv 9) pe_int) (fun _ _ => rfl)) pa_nil)))))) (pss_one (ps_expr (pe_bmK K PySem.F.plainAttrs_list PySem.F.slot_list_append PySem.F.type_list_append mt_append (pv 4) (pa_cons (pv 7) pa_nil)))))))) (pss_cons (ps_if (pt_cmpR op_gt (pe_op op_mod (pe_op op_fdiv (pv 2) pe_int) pe_int) pe_int (nomark _)) (pss_one (ps_asg (pe_lst pa_nil) (pg_sub (pv 4) (pe_un un_neg pe_int) set_list))) pss_nil) (pss_one (ps_ret (pv 4)))))))), ?_⟩
  walk_at "go"
  refine ⟨_, _, rfl, k0, by omega, ?_⟩
  walk_at "go"
  refine w_lst S (by decide) fun p H1 S1 => ?_
  have n0 := mixed_nn c k
  generalize en : mixed c k = n at *
  have hm0 : 1 ≤ 1 + n % 8 := by omega
  have hm1 : 1 + n % 8 ≤ 8 := by omega
  have em : manyOf c k = (1 + n % 8).toNat := by unfold manyOf; rw [en]
  have er : rows c k = if 0 < n / 8 % 5 then ((List.range (1 + n % 8).toNat).map (rowAt c k (1 + n % 8))).set ((1 + n % 8).toNat - 1) [] else (List.range (1 + n % 8).toNat).map (rowAt c k (1 + n % 8)) := by
    unfold rows; rw [em, en]
  generalize 1 + n % 8 = many at *
  walk_at "go"
  refine for_rng (fun i σ H => ∃ (B' : Hp) (as : List Addr) (v5 v6 v7 v8 v9 : Option V), Same B B' ∧ σ = [some (.int c), some (.int k), some (.int n), some (.int many), some (.ref p), v5, v6, v7, v8, v9] ∧ Hs B' ((p, .lst (as.map V.ref)) :: M) H ∧ LR B' as ((List.range i).map (rowAt c k many)))
    ⟨B, [], none, none, none, none, none, Same.refl B, rfl, S1, .nil⟩ ?_ ?_
  · rintro i σ H2 hi ⟨B', as, v5, v6, v7, v8, v9, e1, rfl, S2, hR⟩
    walk_at "go"
    refine ⟨_, _, rfl, by omega, by omega, ?_⟩
    walk_at "go"
    refine w_lst S2 (by decide) fun q H3 S3 => ?_
    walk_at "go"
    refine w_lst S3 (by decide) fun q2 H4 S4 => ?_
    have c0 := mixed_nn c (k + 1 + (i : Int))
    walk_at "go"
    have er2 : rowAt c k many i = (List.range (cnt (mixed c (k + 1 + (i : Int)) % 5)).toNat).map fun j => farAt c k many i (j : Nat) := rfl
    generalize mixed c (k + 1 + (i : Int)) = mm at *
    have hm5 : 0 ≤ mm % 5 ∧ mm % 5 < 5 := by omega
    refine w_ixL (sqL_of (S4.get 0)) (cnt_at hm5.1 hm5.2) ?_
    have hc := cnt_le (mm % 5)
    generalize cnt (mm % 5) = cn at *
    walk_at "go"
    refine for_rng (fun j σ H => ∃ (v8 v9 : Option V), σ = [some (.int c), some (.int k), some (.int n), some (.int many), some (.ref p), some (.int (i : Int)), some (.int mm), some (.ref q), v8, v9] ∧ Hs B' ((q, .lst (((List.range j).map fun j => farAt c k many i (j : Nat)).map V.int)) :: (p, .lst (as.map V.ref)) :: M) H)
      ⟨v8, v9, rfl, S4.drop 0⟩ ?_ ?_
    · rintro j σ H5 hj ⟨v8, v9, rfl, S5⟩
      walk_at "go"
      refine ⟨_, _, rfl, by omega, by omega, ?_⟩
      have f0 := mixed_nn c (k + 20 + 3 * (i : Int) + (j : Int))
      have ef : farAt c k many i (j : Nat) = if mixed c (k + 20 + 3 * (i : Int) + (j : Int)) % 3 = 0 then ((i : Int) + 1) % many else mixed c (k + 20 + 3 * (i : Int) + (j : Int)) / 3 % many := rfl
      generalize mixed c (k + 20 + 3 * (i : Int) + (j : Int)) = ff at *
      walk_at "go"
      refine ⟨tyL (sqL_of (S5.get 0)), ?_⟩
      walk_at "go"
      refine w_lst S5 (len_ok (by simp)) fun z H6 S6 => ?_
      walk_at "go"
      refine w_ixL (sqL_of (S6.get 0)) (three_at (by omega) (by omega)) ?_
      walk_at "go"
      refine w_append (S6.drop 0) 0 rfl (len_lt (by simp; omega)) fun H7 S7 => ?_
      refine ⟨some (.int (j : Int)), some (.int ff), rfl, ?_⟩
      rw [snoc_map, ef, List.map_append]
      exact S7
    · rintro σ H5 ⟨v8, v9, rfl, S5⟩
      walk_at "go"
      refine ⟨tyL (sqL_of (S5.get 1)), ?_⟩
      walk_at "go"
      refine w_append S5 1 rfl (len_lt (by have := hR.length; simp at this; simp; omega)) fun H6 S6 => ?_
      obtain ⟨B2, eB, hq, S7⟩ := S6.shut 0
      refine ⟨B2, as ++ [q], some (.int (i : Int)), some (.int mm), some (.ref q), v8, v9, e1.trans eB, rfl, ?_, ?_⟩
      · rw [List.map_append]; exact S7
      · rw [snoc_map, er2]
        exact (hR.mono eB).snoc hq
  · rintro σ H2 ⟨B', as, v5, v6, v7, v8, v9, e1, rfl, S2, hR⟩
    have hlen : as.length = many.toNat := by have := hR.length; simpa using this
    walk_at "go"
    refine ite2 (fun hc => ?_) (fun hc => ?_)
    · have hc := of_decide_eq_true hc
      walk_at "go"
      refine w_lst S2 (by decide) fun q H3 S3 => ?_
      walk_at "go"
      refine w_setL S3 1 rfl (n := many.toNat - 1) ?_ fun H4 S4 => ?_
      · unfold ixN
        rw [if_neg (by decide), if_pos (by rw [List.length_map, hlen]; omega), List.length_map, hlen]
        congr 1
        omega
      walk_at "go"
      obtain ⟨B2, eB, hq, S5⟩ := S4.shut 0
      obtain ⟨B3, eB3, hp, S6⟩ := S5.shut 0
      refine hQ p _ _ ((e1.trans eB).trans eB3) S6 ⟨as.set (many.toNat - 1) q, ?_, ?_⟩
      · rw [hp, List.map_set]
      · rw [er, if_pos hc]
        exact ((hR.mono eB).set hq).mono eB3
    · have hc : ¬ 0 < n / 8 % 5 := fun q => hc (decide_eq_true q)
      walk_at "go"
      obtain ⟨B3, eB3, hp, S6⟩ := S2.shut 0
      refine hQ p _ _ (e1.trans eB3) S6 ⟨as, hp, ?_⟩
      rw [er, if_neg hc]
      exact hR.mono eB3
end
end Rw

namespace Rw
open PySem PySem.Spec PyProof.Rows L2
local macro_rules | `(tactic| walk_at "go1") => `(tactic| first
  | (with_reducible refine w_seq ?_)
  | (with_reducible refine w_asg ?_)
  | (with_reducible refine w_name ?_)
  | (with_reducible refine w_drop ?_)
  | (with_reducible refine w_ret ?_)
  | (with_reducible refine w_next ?_)
  | (with_reducible refine w_op ?_)
  | (with_reducible refine w_un ?_)
  | (with_reducible refine w_c ?_)
  | (with_reducible refine w_var (by with_unfolding_all rfl) ?_)
  | (with_reducible refine w_rI0 ?_)
  | (with_reducible refine w_rU ?_)
  | ((with_reducible refine w_mod ?_ ?_); (show (0 : Int) < _); omega)
  | ((with_reducible refine w_div ?_ ?_); exact And.intro (by omega) (by omega))
  | ((with_reducible refine w_mul ?_ ?_); (first | exact Or.inl (And.intro (by omega) (by omega)) | exact Or.inr (And.intro (by omega) (by omega))))
  | (with_reducible refine w_ifS ?_)
  | (with_reducible refine w_if ?_)
  | (with_reducible refine w_test ?_)
  | (with_reducible refine w_B ?_)
  | (with_reducible refine w_bl ?_)
  | (with_reducible refine w_not ?_)
  | (with_reducible refine w_and ?_)
  | (with_reducible refine w_or ?_)
  | (with_reducible refine w_cons ?_)
  | (with_reducible refine w_nil ?_)
  | (with_reducible refine w_call ?_)
  | (with_reducible refine w_cb ?_)
  | (with_reducible refine w_bm0 ?_)
  | (with_reducible refine w_bm ?_)
  | (with_reducible refine w_tlst ?_)
  | (with_reducible refine w_ttup ?_)
  | (with_reducible refine w_sub ?_)
  | (with_reducible refine w_for ?_)
  | (with_reducible refine w_rng1 ?_)
  | ((with_reducible refine w_rngE ?_ ?_ ?_); omega; omega)
  | (with_reducible refine w_iL ?_)
  | (with_reducible refine w_iT ?_)
  | (with_reducible refine w_iE ?_)
  | (with_reducible refine w_iZ ?_)
  | (with_reducible refine w_lc ?_)
  | (with_reducible refine w_yes ?_)
  | (with_reducible refine w_gcons ?_)
  | (with_reducible refine w_gnil ?_)
  | (with_reducible refine w_max2 ?_)
  | (with_reducible refine w_sl ?_)
  | (with_reducible refine w_part ?_)
  | (with_reducible refine w_partI ?_)
  | (with_reducible refine w_nopart ?_)
  | (with_reducible refine w_isT ?_)
  | (with_reducible refine w_notT ?_)
  | (with_reducible refine w_isB ?_)
  | (with_reducible refine w_notB ?_)
  | (with_reducible refine w_isN ?_)
  | (with_reducible refine w_notN ?_)
  | (with_reducible refine w_fld ?_)
  | (with_reducible refine w_ftm ?_)
  | (with_reducible refine w_lrg ?_)
  | (with_reducible refine w_rg1 ?_)
  | (with_reducible refine w_rg1E ?_)
  | (with_reducible refine w_tru ?_)
  | (with_reducible refine w_truB ?_)
  | (with_reducible refine w_truI ?_)
  | (with_reducible refine w_notT' ?_)
  | (with_reducible refine w_andT ?_)
  | (with_reducible refine w_orT ?_)
  | (with_reducible refine w_andV ?_)
  | (with_reducible refine w_orV ?_)
  | (with_reducible refine w_andE ?_)
  | (with_reducible refine w_orE ?_)
  | (with_reducible refine w_notV ?_)
  | (with_reducible refine w_notE ?_)
  | (with_reducible refine w_chain ?_)
  | (with_reducible refine w_chainI ?_)
  | (with_reducible refine w_meth ?_)
  | (with_reducible refine w_make ?_)
  | (with_reducible refine w_sfld ?_))
local macro_rules | `(tactic| walk_at "go") => `(tactic| repeat walk_at "go1")

structure Names (mg : Str → Option Value) : Prop where
  n_len : mg "len" = none
  n_range : mg "range" = none
  n_type : mg "type" = none
  n_list : mg "list" = none
  n_tuple : mg "tuple" = none
  n_int : mg "int" = none
  n_all : mg "all" = none
  n_any : mg "any" = none
  n_sum : mg "sum" = none
  n_max : mg "max" = none
  n_zip : mg "zip" = none
  n_enumerate : mg "enumerate" = none
  n_divmod : mg "divmod" = none
  c_MOST_PLACES : ∃ t, mg "MOST_PLACES" = some (.int 8 t)
  c_MOST_WAYS : ∃ t, mg "MOST_WAYS" = some (.int 3 t)
/-! ### what a web is -/
structure Valid (rows : List (List Int)) : Prop where
  pos : 1 ≤ rows.length
  le : rows.length ≤ 8
  row : ∀ r ∈ rows, r.length ≤ 3 ∧ ∀ x ∈ r, 0 ≤ x ∧ x < (rows.length : Int)
theorem all_true : ∀ n, (List.replicate n true).all id = true
  | 0 => rfl
  | n + 1 => by rw [List.replicate_succ, List.all_cons, all_true n]; rfl
/-! ### things of any kind -/
inductive TyH (H : Hp) : V → String → Prop where
  | non : TyH H .non "NoneType"
  | bl (b : Bool) : TyH H (.bl b) "bool"
  | int (i : Int) : TyH H (.int i) "int"
  | str (x : Str) : TyH H (.str x) "str"
  | lst {a : Addr} {xs : List V} (h : H a = some (.lst xs)) : TyH H (.ref a) "list"
  | tup {a : Addr} {xs : List V} (h : H a = some (.tup xs)) : TyH H (.ref a) "tuple"
  | dK {a : Addr} {kvs : List (Key × V)} (h : H a = some (.dK kvs)) : TyH H (.ref a) "dict"
theorem TyH.toB {K : PySem.W.Frag} {H : Hp} {v : V} {T : String} (t : TyH H v T) : TyB K H v T := by
  cases t with
  | non => exact .non
  | bl b => exact .bl b
  | int i => exact .int i
  | str x => exact .str x
  | lst h => exact .lst (sqL_of h)
  | tup h => exact .tup (sqT_of h)
  | dK h => exact .dK h
theorem TyH.mono {H H' : Hp} {v : V} {T : String} (e : Same H H') (t : TyH H v T) : TyH H' v T := by
  cases t with
  | non => exact .non
  | bl b => exact .bl b
  | int i => exact .int i
  | str x => exact .str x
  | lst h => exact .lst (e _ _ h)
  | tup h => exact .tup (e _ _ h)
  | dK h => exact .dK (e _ _ h)
/-- whether a thing is a place of m ones -/
inductive PlD (H : Hp) (m : Int) : V → Bool → Prop where
  | int (i : Int) : PlD H m (.int i) (decide (0 ≤ i ∧ i < m))
  | oth {v : V} {T : String} (t : TyH H v T) (h : T ≠ "int") : PlD H m v false
theorem PlD.mono {H H' : Hp} {m : Int} {v : V} {b : Bool} (e : Same H H') (h : PlD H m v b) : PlD H' m v b := by
  cases h with
  | int i => exact .int i
  | oth t h => exact .oth (t.mono e) h
/-- whether things are as told -/
inductive AllD (R : V → Bool → Prop) : List V → List Bool → Prop where
  | nil : AllD R [] []
  | cons {v : V} {b : Bool} {vs : List V} {bs : List Bool} (h : R v b) (t : AllD R vs bs) : AllD R (v :: vs) (b :: bs)
theorem AllD.imp {R S : V → Bool → Prop} (f : ∀ v b, R v b → S v b) {vs : List V} {bs : List Bool} (h : AllD R vs bs) : AllD S vs bs := by
  induction h with
  | nil => exact .nil
  | cons h _ ih => exact .cons (f _ _ h) ih
theorem AllD.length {R : V → Bool → Prop} {vs : List V} {bs : List Bool} (h : AllD R vs bs) : vs.length = bs.length := by
  induction h with
  | nil => rfl
  | cons h _ ih => simp [ih]
theorem AllD.get {R : V → Bool → Prop} {vs : List V} {bs : List Bool} (h : AllD R vs bs) : ∀ {i : Nat} {v : V}, vs[i]? = some v → ∃ b, bs[i]? = some b ∧ R v b := by
  induction h with
  | nil => intro i v e; simp at e
  | cons h _ ih =>
    intro i v e
    cases i with
    | zero => simp at e; subst e; exact ⟨_, rfl, h⟩
    | succ i => exact ih (by simpa using e)
inductive RwD (H : Hp) (m : Int) : V → Bool → Prop where
  | lst {a : Addr} {xs : List V} {bs : List Bool} (h : H a = some (.lst xs)) (t : AllD (PlD H m) xs bs) : RwD H m (.ref a) (decide (xs.length ≤ 3) && bs.all id)
  | oth {v : V} {T : String} (t : TyH H v T) (h : T ≠ "list") : RwD H m v false
theorem RwD.mono {H H' : Hp} {m : Int} {v : V} {b : Bool} (e : Same H H') (h : RwD H m v b) : RwD H' m v b := by
  cases h with
  | lst h t => exact .lst (e _ _ h) (t.imp fun _ _ => PlD.mono e)
  | oth t h => exact .oth (t.mono e) h
inductive WbD (H : Hp) : V → Bool → Prop where
  | lst {a : Addr} {xs : List V} {bs : List Bool} (h : H a = some (.lst xs)) (t : AllD (RwD H (xs.length : Nat)) xs bs) : WbD H (.ref a) (decide (1 ≤ xs.length ∧ xs.length ≤ 8) && bs.all id)
  | oth {v : V} {T : String} (t : TyH H v T) (h : T ≠ "list") : WbD H v false
theorem WbD.mono {H H' : Hp} {v : V} {b : Bool} (e : Same H H') (h : WbD H v b) : WbD H' v b := by
  cases h with
  | lst h t => exact .lst (e _ _ h) (t.imp fun _ _ => RwD.mono e)
  | oth t h => exact .oth (t.mono e) h
/-- whether a thing is a number from lo to hi -/
inductive NmD (H : Hp) (lo hi : Int) : V → Bool → Prop where
  | int (i : Int) : NmD H lo hi (.int i) (decide (lo ≤ i ∧ i ≤ hi))
  | oth {v : V} {T : String} (t : TyH H v T) (h : T ≠ "int") : NmD H lo hi v false
theorem NmD.mono {H H' : Hp} {lo hi : Int} {v : V} {b : Bool} (e : Same H H') (h : NmD H lo hi v b) : NmD H' lo hi v b := by
  cases h with
  | int i => exact .int i
  | oth t h => exact .oth (t.mono e) h
theorem PlD.num {H : Hp} {m : Int} {v : V} {b : Bool} (h : PlD H m v b) : NmD H 0 (m - 1) v b := by
  cases h with
  | int i =>
    have e : decide (0 ≤ i ∧ i < m) = decide (0 ≤ i ∧ i ≤ m - 1) := decide_eq_decide.mpr ⟨fun q => ⟨q.1, by omega⟩, fun q => ⟨q.1, by omega⟩⟩
    rw [e]
    exact .int i
  | oth t h => exact .oth t h
def spNum : Sp := fun vs H Q _ => ∃ (v : V) (lo hi : Int) (b : Bool), vs = [v, .int lo, .int hi] ∧ NmD H lo hi v b ∧ Q (.bl b) H
def spIsRowD : Sp := fun vs H Q _ => ∃ (B : Hp) (M : List (Addr × HO)) (v : V) (m : Int) (b : Bool), vs = [v, .int m] ∧ Hs B M H ∧ RwD B m v b ∧ ∀ H', Hs B M H' → Q (.bl b) H'
def spIsWebD : Sp := fun vs H Q _ => ∃ (B : Hp) (M : List (Addr × HO)) (v : V) (b : Bool), vs = [v] ∧ Hs B M H ∧ WbD B v b ∧ ∀ H', Hs B M H' → Q (.bl b) H'
/-! what is good -/
theorem allD_ints {H : Hp} {m : Int} : ∀ {r : List Int}, (∀ x ∈ r, 0 ≤ x ∧ x < m) → AllD (PlD H m) (r.map V.int) (List.replicate r.length true)
  | [], _ => .nil
  | x :: r, h => by
    have e : PlD H m (.int x) true := by
      rw [← decide_eq_true (h x List.mem_cons_self)]
      exact .int x
    exact .cons e (allD_ints fun y hy => h y (List.mem_cons_of_mem _ hy))
theorem rwD_good {H : Hp} {m : Int} {a : Addr} {r : List Int} (h : LI H a r) (hl : r.length ≤ 3) (hx : ∀ x ∈ r, 0 ≤ x ∧ x < m) : RwD H m (.ref a) true := by
  have e := RwD.lst h (allD_ints hx)
  rw [all_true, decide_eq_true (by simpa using hl)] at e
  exact e
theorem allD_rows {H : Hp} {m : Int} : ∀ {as : List Addr} {rows : List (List Int)}, LR H as rows → (∀ r ∈ rows, r.length ≤ 3 ∧ ∀ x ∈ r, 0 ≤ x ∧ x < m) → AllD (RwD H m) (as.map V.ref) (List.replicate rows.length true)
  | _, _, .nil, _ => .nil
  | _, _, .cons h t, hv => .cons (rwD_good h (hv _ List.mem_cons_self).1 (hv _ List.mem_cons_self).2) (allD_rows t fun r hr => hv r (List.mem_cons_of_mem _ hr))
theorem wbD_good {H : Hp} {a : Addr} {rows : List (List Int)} (h : LL H a rows) (hv : Valid rows) : WbD H (.ref a) true := by
  obtain ⟨as, h1, h2⟩ := h
  have hl := h2.length
  have hp := hv.pos
  have hle := hv.le
  have e := WbD.lst h1 (allD_rows (m := ((as.map V.ref).length : Nat)) h2 (by simpa [hl] using hv.row))
  rw [all_true, decide_eq_true (by simp; omega)] at e
  exact e
theorem bs_snoc {bs : List Bool} {b : Bool} {i : Nat} (h : bs[i]? = some b) : (bs.take (i + 1)).map V.bl = (bs.take i).map V.bl ++ [.bl b] := by
  rw [List.take_add_one, h, List.map_append]; rfl
-- is_number: 0 thing, 1 least, 2 most
abbrev s_is_number : Stmt := top 11
theorem sc_is_number : FnScope ["thing", "least", "most"] ["thing", "least", "most"] (defScope s_is_number) := ⟨rfl, rfl, rfl, by decide +kernel, rfl, by decide +kernel, by decide +kernel⟩
-- _is_row: 0 thing, 1 many, 2 place
abbrev s_is_row : Stmt := top 16
theorem sc_is_row : FnScope ["thing", "many", "place"] ["thing", "many"] (defScope s_is_row) := ⟨rfl, rfl, rfl, by decide +kernel, rfl, by decide +kernel, by decide +kernel⟩
-- is_web: 0 thing, 1 row
abbrev s_is_web : Stmt := top 15
theorem sc_is_web : FnScope ["thing", "row"] ["thing"] (defScope s_is_web) := ⟨rfl, rfl, rfl, by decide +kernel, rfl, by decide +kernel, by decide +kernel⟩
section
variable {P : Program} {w : World} {K : PySem.W.Frag} {mg : Str → Option Value} {base : Heap}
theorem ok_num (T : Names mg) (G : Glo K mg "is_number" s_is_number) : Cal P w K mg base "is_number" 1 ["thing", "least", "most"] spNum := by
  refine G.cal (k := 0) sc_is_number (fun _ _ _ _ _ _ us hl => match us, hl with | [_, _, _], _ => rfl) (fun vs H Q E h => ?_) (fun f cdv A outer s H vs Q E hr h => ?_)
  · obtain ⟨v, lo, hi, b, rfl, _⟩ := h; rfl
  obtain ⟨v, lo, hi, b, rfl, hd, hQ⟩ := h
  refine ⟨_, (pss_one (ps_ret (pe_and (pe_cmpR op_isTX (pe_callTy (k_type K) rfl T.n_type (by decide +kernel) (pa_cons (pv 0) pa_nil)) (pe_bltn (v := .ty "int") rfl T.n_int (by decide +kernel) rfl) (nomark _)) (pe_one (pe_chain op_le op_le (pv 1) (pv 0) (pv 2)))))), ?_⟩
  walk_at "go"
  cases hd with
  | int i =>
    refine w_typ (.int i) ?_
    walk_at "go"
    refine iteP rfl ?_
    walk_at "go"
    refine ite3 (fun h => ?_) (fun h => ?_)
    · walk_at "go"
      rw [show decide (i ≤ hi) = decide (lo ≤ i ∧ i ≤ hi) from decide_eq_decide.mpr ⟨fun q => ⟨h, q⟩, fun q => q.2⟩]
      exact hQ
    · rw [show decide (lo ≤ i ∧ i ≤ hi) = false from decide_eq_false fun q => h q.1] at hQ
      exact hQ
  | oth t h =>
    refine w_typ t.toB ?_
    walk_at "go"
    refine iteN h ?_
    exact hQ
theorem ok_is_rowD (T : Names mg) (G : Glo K mg "_is_row" s_is_row) (C_is_number : Cal P w K mg base "is_number" 1 ["thing", "least", "most"] spNum) : Cal P w K mg base "_is_row" 2 ["thing", "many"] spIsRowD := by
  obtain ⟨tw, c_MOST_WAYS⟩ := T.c_MOST_WAYS
  refine G.cal (k := 1) sc_is_row (fun _ _ _ _ _ _ us hl => match us, hl with | [_, _], _ => rfl) (fun vs H Q E h => ?_) (fun f cdv A outer s H vs Q E hr h => ?_)
  · obtain ⟨B, M, a, r, m, rfl, _⟩ := h; rfl
  obtain ⟨B, M, v, m, b, rfl, S, hd, hQ⟩ := h
  refine ⟨_, (pss_cons (ps_if (PW.pt (pw_or (pt_cmpR op_notTyB (pe_callTy (k_type K) rfl T.n_type (by decide +kernel) (pa_cons (pv 0) pa_nil)) (pe_bltn (v := .ty "list") rfl T.n_list (by decide +kernel) rfl) (nomark _)) (pw_or1 (pt_cmpR op_gt (pe_callB (k_len K) rfl T.n_len boot_len (pa_cons (pv 0) pa_nil)) (pe_glob (v := .int 3) rfl c_MOST_WAYS ⟨_, rfl⟩) (nomark _))))) (pss_one (ps_ret pe_bl)) pss_nil) (pss_one (ps_ret (pe_callB (k_all K rfl) rfl T.n_all (by decide +kernel) (pa_cons (pe_lc (own := [("place", 2)]) rfl sc_is_row.nd (pi_listK K (pv 0)) (blkOk_by (own := [("place", 2)]) (N := ["thing", "many", "place"]) (sc := defScope s_is_row) (by decide +kernel)) (fun _ _ _ _ _ => (pg_name (i := 2) sc_is_row.nd rfl (Or.inl rfl))) (fun _ _ _ _ _ => pts_nil) (fun _ _ _ _ _ => (pe_cal C_is_number hr rfl (pa_cons (pv 2) (pa_cons pe_int (pa_cons (pe_op op_sub (pv 1) pe_int) pa_nil)))))) pa_nil))))), ?_⟩
  walk_at "go"
  cases hd with
  | @oth _ T t h =>
    refine w_typ (t.mono S.ex).toB ?_
    walk_at "go"
    rw [decide_eq_false h]
    refine iteT ?_
    exact hQ _ S
  | @lst a xs bs hr0 ht =>
    have hlb := ht.length
    refine w_typ (.lst (sqL_of (S.ex _ _ hr0))) ?_
    walk_at "go"
    refine iteF ?_
    walk_at "go"
    refine w_len (sqL_of (S.ex _ _ hr0)) ?_
    walk_at "go"
    refine ite3 (fun h3 => ?_) (fun h3 => ?_)
    · walk_at "go"
      rw [decide_eq_false (by omega)] at hQ
      exact hQ _ S
    rw [decide_eq_true (by omega), Bool.true_and] at hQ
    walk_at "go"
    refine w_iLE (sqL_of (S.ex _ _ hr0)) ?_
    refine lc_L S hr0 (fun i B' acc => B' = B ∧ acc = (bs.take i).map V.bl) ⟨rfl, rfl⟩ ?_ ?_
    · rintro i x D B' acc H' hi hli e S' ⟨rfl, rfl⟩
      obtain ⟨b, hb, hp⟩ := ht.get hi
      have hil : i < xs.length := (List.getElem?_eq_some_iff.mp hi).1
      walk_at "go"
      refine ⟨rfl, ?_⟩
      walk_at "go"
      refine iteT ?_
      walk_at "go"
      refine ⟨x, 0, m - 1, b, rfl, (hp.mono S'.ex).num, ?_⟩
      exact lcp S' (Same.refl _) hli (by omega) ⟨rfl, (bs_snoc hb).symm⟩
    · rintro D B' acc H' e S' hli ⟨rfl, rfl⟩
      walk_at "go"
      refine w_all (sqL_of (S'.get 0)) ?_
      rw [List.take_of_length_le (by omega)]
      exact hQ _ (S'.drop 0)
theorem ok_is_webD (T : Names mg) (G : Glo K mg "is_web" s_is_web) (C_is_row : Cal P w K mg base "_is_row" 2 ["thing", "many"] spIsRowD) : Cal P w K mg base "is_web" 3 ["thing"] spIsWebD := by
  obtain ⟨tw, c_MOST_PLACES⟩ := T.c_MOST_PLACES
  refine G.cal (k := 2) sc_is_web (fun _ _ _ _ _ _ us hl => match us, hl with | [_], _ => rfl) (fun vs H Q E h => ?_) (fun f cdv A outer s H vs Q E hr h => ?_)
  · obtain ⟨B, M, a, r, rfl, _⟩ := h; rfl
  obtain ⟨B, M, v, b, rfl, S, hd, hQ⟩ := h
  refine ⟨_, (pss_cons (ps_if (PW.pt (pw_or (pt_cmpR op_notTyB (pe_callTy (k_type K) rfl T.n_type (by decide +kernel) (pa_cons (pv 0) pa_nil)) (pe_bltn (v := .ty "list") rfl T.n_list (by decide +kernel) rfl) (nomark _)) (pw_or1 (pt_not (pt_chain op_le op_le pe_int (pe_callB (k_len K) rfl T.n_len boot_len (pa_cons (pv 0) pa_nil)) (pe_glob (v := .int 8) rfl c_MOST_PLACES ⟨_, rfl⟩)))))) (pss_one (ps_ret pe_bl)) pss_nil) (pss_one (ps_ret (pe_callB (k_all K rfl) rfl T.n_all (by decide +kernel) (pa_cons (pe_lc (own := [("row", 1)]) rfl sc_is_web.nd (pi_listK K (pv 0)) (blkOk_by (own := [("row", 1)]) (N := ["thing", "row"]) (sc := defScope s_is_web) (by decide +kernel)) (fun _ _ _ _ _ => (pg_name (i := 1) sc_is_web.nd rfl (Or.inl rfl))) (fun _ _ _ _ _ => pts_nil) (fun _ _ _ _ _ => (pe_cal C_is_row hr rfl (pa_cons (pv 1) (pa_cons (pe_callB (k_len K) rfl T.n_len boot_len (pa_cons (pv 0) pa_nil)) pa_nil))))) pa_nil))))), ?_⟩
  walk_at "go"
  cases hd with
  | @oth _ T t h =>
    refine w_typ (t.mono S.ex).toB ?_
    walk_at "go"
    rw [decide_eq_false h]
    refine iteT ?_
    exact hQ _ S
  | @lst a xs bs hr0 ht =>
    have hlb := ht.length
    refine w_typ (.lst (sqL_of (S.ex _ _ hr0))) ?_
    walk_at "go"
    refine iteF ?_
    walk_at "go"
    refine w_len (sqL_of (S.ex _ _ hr0)) ?_
    walk_at "go"
    refine ite3 (fun h3 => ?_) (fun h3 => ?_)
    · walk_at "go"
      by_cases h8 : (xs.length : Int) ≤ 8
      · rw [decide_eq_true h8]
        rw [decide_eq_true (by omega), Bool.true_and] at hQ
        refine iteF ?_
        walk_at "go"
        refine w_iLE (sqL_of (S.ex _ _ hr0)) ?_
        refine lc_L S hr0 (fun i B' acc => B' = B ∧ acc = (bs.take i).map V.bl) ⟨rfl, rfl⟩ ?_ ?_
        · rintro i x D B' acc H' hi hli e S' ⟨rfl, rfl⟩
          obtain ⟨b, hb, hp⟩ := ht.get hi
          have hil : i < xs.length := (List.getElem?_eq_some_iff.mp hi).1
          walk_at "go"
          refine ⟨rfl, ?_⟩
          walk_at "go"
          refine iteT ?_
          walk_at "go"
          refine w_len (sqL_of (S'.ex _ _ hr0)) ?_
          walk_at "go"
          refine ⟨_, _, x, _, b, rfl, S', hp, fun H2 S2 => ?_⟩
          exact lcp S2 (Same.refl _) hli (by omega) ⟨rfl, (bs_snoc hb).symm⟩
        · rintro D B' acc H' e S' hli ⟨rfl, rfl⟩
          walk_at "go"
          refine w_all (sqL_of (S'.get 0)) ?_
          rw [List.take_of_length_le (by omega)]
          exact hQ _ (S'.drop 0)
      · rw [decide_eq_false h8]
        rw [decide_eq_false (by omega)] at hQ
        refine iteT ?_
        exact hQ _ S
    · rw [decide_eq_false (by omega)] at hQ
      refine ⟨false, rfl, ?_⟩
      refine iteT ?_
      exact hQ _ S
end
end Rw

namespace Rw
open PySem PySem.Spec PyProof.Rows L2
local macro_rules | `(tactic| walk_at "go1") => `(tactic| first
  | (with_reducible refine w_seq ?_)
  | (with_reducible refine w_asg ?_)
  | (with_reducible refine w_name ?_)
  | (with_reducible refine w_drop ?_)
  | (with_reducible refine w_ret ?_)
  | (with_reducible refine w_next ?_)
  | (with_reducible refine w_op ?_)
  | (with_reducible refine w_un ?_)
  | (with_reducible refine w_c ?_)
  | (with_reducible refine w_var (by with_unfolding_all rfl) ?_)
  | (with_reducible refine w_rI0 ?_)
  | (with_reducible refine w_rU ?_)
  | ((with_reducible refine w_mod ?_ ?_); (show (0 : Int) < _); omega)
  | ((with_reducible refine w_div ?_ ?_); exact And.intro (by omega) (by omega))
  | ((with_reducible refine w_mul ?_ ?_); (first | exact Or.inl (And.intro (by omega) (by omega)) | exact Or.inr (And.intro (by omega) (by omega))))
  | (with_reducible refine w_ifS ?_)
  | (with_reducible refine w_if ?_)
  | (with_reducible refine w_test ?_)
  | (with_reducible refine w_B ?_)
  | (with_reducible refine w_bl ?_)
  | (with_reducible refine w_not ?_)
  | (with_reducible refine w_and ?_)
  | (with_reducible refine w_or ?_)
  | (with_reducible refine w_cons ?_)
  | (with_reducible refine w_nil ?_)
  | (with_reducible refine w_call ?_)
  | (with_reducible refine w_cb ?_)
  | (with_reducible refine w_bm0 ?_)
  | (with_reducible refine w_bm ?_)
  | (with_reducible refine w_tlst ?_)
  | (with_reducible refine w_ttup ?_)
  | (with_reducible refine w_sub ?_)
  | (with_reducible refine w_for ?_)
  | (with_reducible refine w_rng1 ?_)
  | ((with_reducible refine w_rngE ?_ ?_ ?_); omega; omega)
  | (with_reducible refine w_iL ?_)
  | (with_reducible refine w_iT ?_)
  | (with_reducible refine w_iE ?_)
  | (with_reducible refine w_iZ ?_)
  | (with_reducible refine w_lc ?_)
  | (with_reducible refine w_yes ?_)
  | (with_reducible refine w_gcons ?_)
  | (with_reducible refine w_gnil ?_)
  | (with_reducible refine w_max2 ?_)
  | (with_reducible refine w_sl ?_)
  | (with_reducible refine w_part ?_)
  | (with_reducible refine w_partI ?_)
  | (with_reducible refine w_nopart ?_)
  | (with_reducible refine w_isT ?_)
  | (with_reducible refine w_notT ?_)
  | (with_reducible refine w_isB ?_)
  | (with_reducible refine w_notB ?_)
  | (with_reducible refine w_isN ?_)
  | (with_reducible refine w_notN ?_)
  | (with_reducible refine w_fld ?_)
  | (with_reducible refine w_ftm ?_)
  | (with_reducible refine w_lrg ?_)
  | (with_reducible refine w_rg1 ?_)
  | (with_reducible refine w_rg1E ?_)
  | (with_reducible refine w_tru ?_)
  | (with_reducible refine w_truB ?_)
  | (with_reducible refine w_truI ?_)
  | (with_reducible refine w_notT' ?_)
  | (with_reducible refine w_andT ?_)
  | (with_reducible refine w_orT ?_)
  | (with_reducible refine w_andV ?_)
  | (with_reducible refine w_orV ?_)
  | (with_reducible refine w_andE ?_)
  | (with_reducible refine w_orE ?_)
  | (with_reducible refine w_notV ?_)
  | (with_reducible refine w_notE ?_)
  | (with_reducible refine w_chain ?_)
  | (with_reducible refine w_chainI ?_)
  | (with_reducible refine w_meth ?_)
  | (with_reducible refine w_make ?_)
  | (with_reducible refine w_sfld ?_))
local macro_rules | `(tactic| walk_at "go") => `(tactic| repeat walk_at "go1")

/-! ### the ways as tuples -/
def TR (H : Hp) (ts : List Addr) (rows : List (List Int)) : Prop := Paired (fun t r => FT H t (r.map V.int)) ts rows
def TW (H : Hp) (t : Addr) (rows : List (List Int)) : Prop := ∃ ts : List Addr, FT H t (ts.map V.ref) ∧ TR H ts rows
theorem TR.mono {H H' : Hp} (e : Same H H') : ∀ {ts : List Addr} {rows : List (List Int)}, TR H ts rows → TR H' ts rows
  | _, _, .nil => .nil
  | _, _, .cons r t => .cons (r.mono e) (TR.mono e t)
theorem TW.mono {H H' : Hp} (e : Same H H') {t : Addr} {rows : List (List Int)} (h : TW H t rows) : TW H' t rows := by
  obtain ⟨ts, h1, h2⟩ := h
  exact ⟨ts, h1.mono e, h2.mono e⟩
theorem TR.length {H : Hp} {ts : List Addr} {rows : List (List Int)} (h : TR H ts rows) : ts.length = rows.length := Paired.length h
theorem TR.snoc {H : Hp} : ∀ {ts : List Addr} {rows : List (List Int)} {a : Addr} {r : List Int}, TR H ts rows → FT H a (r.map V.int) → TR H (ts ++ [a]) (rows ++ [r])
  | _, _, _, _, .nil, h => .cons h .nil
  | _, _, _, _, .cons r t, h => .cons r (TR.snoc t h)
theorem TR.get {H : Hp} : ∀ {ts : List Addr} {rows : List (List Int)} {i : Nat} {r : List Int}, TR H ts rows → rows[i]? = some r → ∃ a, ts[i]? = some a ∧ FT H a (r.map V.int)
  | _, _, _, _, .nil, e => by simp at e
  | _, _, 0, r, .cons h t, e => by simp at e; subst e; exact ⟨_, rfl, h⟩
  | _, _, i + 1, r, .cons h t, e => by
    obtain ⟨a, h1, h2⟩ := TR.get (i := i) t (by simpa using e)
    exact ⟨a, by simpa using h1, h2⟩
/-! ### coming from a place to another -/
inductive Rch (rows : List (List Int)) (a : Int) : Int → Prop where
  | refl : Rch rows a a
  | step {b c : Int} {r : List Int} : Rch rows a b → 0 ≤ b → rows[b.toNat]? = some r → c ∈ r → Rch rows a c
theorem Valid.way {rows : List (List Int)} (v : Valid rows) {b c : Int} {r : List Int} (h : rows[b.toNat]? = some r) (hc : c ∈ r) : 0 ≤ c ∧ c < (rows.length : Int) := (v.row r (List.mem_of_getElem? h)).2 c hc
theorem Rch.range {rows : List (List Int)} (v : Valid rows) {a b : Int} (h : Rch rows a b) (h0 : 0 ≤ a ∧ a < (rows.length : Int)) : 0 ≤ b ∧ b < (rows.length : Int) := by
  cases h with
  | refl => exact h0
  | step h1 h2 h3 h4 => exact v.way h3 h4
/-- one place's ways are looked at -/
def visit1 (s : List Int × List Int) (c : Int) : List Int × List Int := if c ∈ s.1 then s else (s.1 ++ [c], s.2 ++ [c])
structure Seen (rows : List (List Int)) (a : Int) (R W : List Int) : Prop where
  nd : R.Nodup
  wd : W.Nodup
  st : a ∈ R
  sub : ∀ x ∈ W, x ∈ R
  ok : ∀ x ∈ R, 0 ≤ x ∧ x < (rows.length : Int) ∧ Rch rows a x
  done : ∀ x ∈ R, x ∈ W ∨ ∀ r, rows[x.toNat]? = some r → ∀ c ∈ r, c ∈ R
/-- while b's ways are looked at: the first ones are seen -/
structure Seen1 (rows : List (List Int)) (a b : Int) (r : List Int) (j : Nat) (R W : List Int) : Prop where
  nd : R.Nodup
  wd : W.Nodup
  st : a ∈ R
  sub : ∀ x ∈ W, x ∈ R
  ok : ∀ x ∈ R, 0 ≤ x ∧ x < (rows.length : Int) ∧ Rch rows a x
  done : ∀ x ∈ R, x ∈ W ∨ x = b ∨ ∀ r, rows[x.toNat]? = some r → ∀ c ∈ r, c ∈ R
  part : ∀ c ∈ r.take j, c ∈ R
  bR : b ∈ R
theorem Seen1.turn {rows : List (List Int)} {a b : Int} {r : List Int} {j : Nat} {R W : List Int} (v : Valid rows) (h : Seen1 rows a b r j R W) (hb : rows[b.toNat]? = some r) {c : Int} (hc : r[j]? = some c) :
    (c ∈ R → Seen1 rows a b r (j + 1) R W) ∧ (c ∉ R → Seen1 rows a b r (j + 1) (R ++ [c]) (W ++ [c])) := by
  have ht : r.take (j + 1) = r.take j ++ [c] := by rw [List.take_add_one, hc]; rfl
  have hcr := List.mem_of_getElem? hc
  have b0 := (h.ok b h.bR)
  refine ⟨fun hm => ⟨h.nd, h.wd, h.st, h.sub, h.ok, h.done, fun x hx => ?_, h.bR⟩, fun hm => ⟨?_, ?_, ?_, ?_, ?_, ?_, ?_, ?_⟩⟩
  · rw [ht] at hx
    rcases List.mem_append.mp hx with q | q
    · exact h.part x q
    · rw [List.mem_singleton.mp q]; exact hm
  · refine List.nodup_append.mpr ⟨h.nd, by simp, fun x hx y hy e => hm ?_⟩
    rw [List.mem_singleton.mp hy] at e
    rw [← e]; exact hx
  · refine List.nodup_append.mpr ⟨h.wd, by simp, fun x hx y hy e => hm ?_⟩
    rw [List.mem_singleton.mp hy] at e
    rw [← e]; exact h.sub x hx
  · exact List.mem_append_left _ h.st
  · intro x hx
    rcases List.mem_append.mp hx with q | q
    · exact List.mem_append_left _ (h.sub x q)
    · exact List.mem_append_right _ q
  · intro x hx
    rcases List.mem_append.mp hx with q | q
    · exact h.ok x q
    · rw [List.mem_singleton.mp q]
      have := v.way hb hcr
      exact ⟨this.1, this.2, .step b0.2.2 b0.1 hb hcr⟩
  · intro x hx
    rcases List.mem_append.mp hx with q | q
    · rcases h.done x q with z | z | z
      · exact .inl (List.mem_append_left _ z)
      · exact .inr (.inl z)
      · exact .inr (.inr fun r hr c hc => List.mem_append_left _ (z r hr c hc))
    · exact .inl (List.mem_append_right _ q)
  · intro x hx
    rw [ht] at hx
    rcases List.mem_append.mp hx with q | q
    · exact List.mem_append_left _ (h.part x q)
    · exact List.mem_append_right _ q
  · exact List.mem_append_left _ h.bR
theorem Seen.begin {rows : List (List Int)} {a b : Int} {r : List Int} {R W : List Int} (h : Seen rows a R (W ++ [b])) : Seen1 rows a b r 0 R W :=
  ⟨h.nd, (List.nodup_append.mp h.wd).1, h.st, fun x hx => h.sub x (List.mem_append_left _ hx), h.ok, fun x hx => by
    rcases h.done x hx with z | z
    · rcases List.mem_append.mp z with q | q
      · exact .inl q
      · exact .inr (.inl (List.mem_singleton.mp q))
    · exact .inr (.inr z), fun c hc => by simp at hc, h.sub b (List.mem_append_right _ (List.mem_singleton.mpr rfl))⟩
theorem Seen1.finish {rows : List (List Int)} {a b : Int} {r : List Int} {R W : List Int} (h : Seen1 rows a b r r.length R W) (hb : rows[b.toNat]? = some r) : Seen rows a R W :=
  ⟨h.nd, h.wd, h.st, h.sub, h.ok, fun x hx => by
    rcases h.done x hx with z | z | z
    · exact .inl z
    · subst z
      refine .inr fun r' hr' c hc => ?_
      rw [hb] at hr'; cases hr'
      exact h.part c (by rw [List.take_length]; exact hc)
    · exact .inr z⟩
theorem Seen.all {rows : List (List Int)} {a : Int} {R : List Int} (h : Seen rows a R []) : ∀ x, x ∈ R ↔ Rch rows a x := by
  intro x
  refine ⟨fun hx => (h.ok x hx).2.2, fun hx => ?_⟩
  induction hx with
  | refl => exact h.st
  | step h1 h2 h3 h4 ih =>
    rcases h.done _ ih with z | z
    · simp at z
    · exact z _ h3 _ h4
def spReached : Sp := fun vs H Q _ => ∃ (B : Hp) (M : List (Addr × HO)) (t : Addr) (rows : List (List Int)) (a : Int), vs = [.ref t, .int a] ∧ Hs B M H ∧ TW B t rows ∧ Valid rows ∧ 0 ≤ a ∧ a < (rows.length : Int) ∧
  ∀ (p : Addr) (H' : Hp) (R : List Int), Hs B ((p, .lst (R.map V.int)) :: M) H' → R.Nodup → (∀ x, x ∈ R ↔ Rch rows a x) → Q (.ref p) H'
-- _reached: 0 ways, 1 start, 2 reached, 3 waiting, 4 row, 5 place
abbrev s_reached : Stmt := top 17
theorem sc_reached : FnScope ["ways", "start", "reached", "waiting", "row", "place"] ["ways", "start"] (defScope s_reached) := ⟨rfl, rfl, rfl, by decide +kernel, rfl, by decide +kernel, by decide +kernel⟩
section
variable {P : Program} {w : World} {K : PySem.W.Frag} {mg : Str → Option Value} {base : Heap}
theorem ok_reached (T : Names mg) (G : Glo K mg "_reached" s_reached) : Cal P w K mg base "_reached" 1 ["ways", "start"] spReached := by
  refine G.cal (k := 0) sc_reached (fun _ _ _ _ _ _ us hl => match us, hl with | [_, _], _ => rfl) (fun vs H Q E h => ?_) (fun f cdv A outer s H vs Q E hr h => ?_)
  · obtain ⟨B, M, t, rows, a, rfl, _⟩ := h; rfl
  obtain ⟨B, M, t, rows, a, rfl, S, ⟨ts, ht, hT⟩, hv, a0, a1, hQ⟩ := h
  have hn := hv.le
  have htl := hT.length
  refine ⟨_, (pss_cons (ps_set (i := 2) sc_reached.nd rfl (Or.inl rfl) (pe_lst (pa_cons (pv 1) pa_nil))) (pss_cons (ps_set (i := 3) sc_reached.nd rfl (Or.inl rfl) (pe_lst (pa_cons (pv 1) pa_nil))) (pss_cons (ps_while PassesOwn.never (pt_truthK K (pv 3) (by intro _; rfl)) (pss_cons (ps_set (i := 4) sc_reached.nd rfl (Or.inl rfl) (pe_ix (k_ixT K) (pv 0) (pe_bm0K K PySem.F.plainAttrs_list PySem.F.slot_list_pop PySem.F.type_list_pop mt_pop (pv 3)) (fun _ _ => rfl))) (pss_one (ps_for PassesOwn.never rfl (pi_tupK K (pv 4)) (pg_name (i := 5) sc_reached.nd rfl (Or.inl rfl)) (pss_one (ps_if (pt_cmpR (k_notIn K) (pv 5) (pv 2) (by rfl)) (pss_cons (ps_expr (pe_bmK K PySem.F.plainAttrs_list PySem.F.slot_list_append PySem.F.type_list_append mt_append (pv 2) (pa_cons (pv 5) pa_nil))) (pss_one (ps_expr (pe_bmK K PySem.F.plainAttrs_list PySem.F.slot_list_append PySem.F.type_list_append mt_append (pv 3) (pa_cons (pv 5) pa_nil))))) pss_nil)))))) (pss_one (ps_ret (pv 2)))))), ?_⟩
  walk_at "go"
  refine w_lst S (len_ok (by simp)) fun p H1 S1 => ?_
  walk_at "go"
  refine w_lst S1 (len_ok (by simp)) fun q H2 S2 => ?_
  walk_at "go"
  refine w_while (α := List Int × List Int) (fun z σ H => ∃ v4 v5 : Option V, σ = [some (.ref t), some (.int a), some (.ref p), some (.ref q), v4, v5] ∧ Hs B ((q, .lst (z.2.map V.int)) :: (p, .lst (z.1.map V.int)) :: M) H ∧ Seen rows a z.1 z.2)
    (fun z => 2 * (8 - z.1.length) + z.2.length) ([a], [a]) ⟨none, none, rfl, S2, ?_⟩ ?_
  · refine ⟨by simp, by simp, by simp, by simp, ?_, by simp⟩
    intro x hx
    rw [List.mem_singleton.mp hx]
    exact ⟨a0, a1, .refl⟩
  · rintro ⟨R, W⟩ σ H3 ⟨v4, v5, rfl, S3, hs⟩
    have hRl : R.length ≤ 8 := Nat.le_trans (pigeon rows.length R hs.nd fun x hx => ⟨(hs.ok x hx).1, (hs.ok x hx).2.1⟩) hn
    walk_at "go"
    refine w_truL (sqL_of (S3.get 0)) ?_
    rcases List.eq_nil_or_concat W with rfl | ⟨W', b, eW⟩
    · refine iteF ?_
      walk_at "go"
      exact hQ p _ R (S3.drop 0) hs.nd hs.all
    · rw [List.concat_eq_append] at eW
      subst eW
      dsimp only at S3 hs ⊢
      rw [show (!(List.map V.int (W' ++ [b])).isEmpty) = true by simp]
      refine iteT (whb ?_)
      have hbR : b ∈ R := hs.sub b (by simp)
      have hb := hs.ok b hbR
      walk_at "go"
      refine ⟨tyL (sqL_of (S3.get 0)), ?_⟩
      refine w_pop S3 0 rfl (y := .int b) (by simp) fun H4 S4 => ?_
      obtain ⟨r, hr1⟩ : ∃ r, rows[b.toNat]? = some r := ⟨_, List.getElem?_eq_getElem (by omega)⟩
      obtain ⟨tb, htb, hr2⟩ := hT.get hr1
      refine w_ixT (v := .ref tb) ((ht.mono S4.ex).sq) (at_of (j := b.toNat) (by omega) (by rw [List.getElem?_map, htb]; rfl)) ?_
      walk_at "go"
      refine w_iTE ((hr2.mono S4.ex).sq) ?_
      have e4 : (List.map V.int (W' ++ [b])).dropLast = W'.map V.int := by rw [List.map_append]; simp
      have S4 : Hs B ((q, .lst (W'.map V.int)) :: (p, .lst (R.map V.int)) :: M) H4 := by
        rw [← e4]; exact S4
      refine for_tpl (xs := r.map V.int) (fun j σ H => ∃ (R' X' : List Int) (v5 : Option V), σ = [some (.ref t), some (.int a), some (.ref p), some (.ref q), some (.ref tb), v5] ∧ Hs B ((q, .lst ((W' ++ X').map V.int)) :: (p, .lst (R'.map V.int)) :: M) H ∧ Seen1 rows a b r j R' (W' ++ X') ∧ R'.length = R.length + X'.length)
        ⟨R, [], v5, rfl, by rw [List.append_nil]; exact S4, by rw [List.append_nil]; exact hs.begin, rfl⟩ (fun i σ H _ ⟨_, _, _, _, S5, _⟩ => (hr2.mono S5.ex).sq) ?_ ?_
      · rintro j x σ H5 hx ⟨R', X', v5, rfl, S5, h1, hlen⟩
        obtain ⟨c, hc, rfl⟩ : ∃ c, r[j]? = some c ∧ V.int c = x := by simpa using hx
        have hRl' : R'.length ≤ 8 := Nat.le_trans (pigeon rows.length R' h1.nd fun x hx => ⟨(h1.ok x hx).1, (h1.ok x hx).2.1⟩) hn
        obtain ⟨t1, t2⟩ := h1.turn hv hr1 hc
        walk_at "go"
        refine w_inL (sqL_of (S5.get 1)) rfl (flat_ints _) ?_
        rw [inV_int]
        walk_at "go"
        by_cases hm : c ∈ R'
        · rw [decide_eq_true hm]
          refine iteF ?_
          walk_at "go"
          exact ⟨R', X', some (.int c), rfl, S5, t1 hm, hlen⟩
        · rw [decide_eq_false hm]
          refine iteT ?_
          have t3 := t2 hm
          have hX : (W' ++ X').length ≤ 8 := Nat.le_trans (pigeon rows.length _ h1.wd fun x hx => ⟨(h1.ok x (h1.sub x hx)).1, (h1.ok x (h1.sub x hx)).2.1⟩) hn
          walk_at "go"
          refine ⟨tyL (sqL_of (S5.get 1)), ?_⟩
          walk_at "go"
          refine w_append S5 1 rfl (len_lt (by simp; omega)) fun H6 S6 => ?_
          walk_at "go"
          refine ⟨tyL (sqL_of (S6.get 0)), ?_⟩
          walk_at "go"
          refine w_append S6 0 rfl (len_lt (by simp at hX; simp; omega)) fun H7 S7 => ?_
          refine ⟨R' ++ [c], X' ++ [c], some (.int c), rfl, ?_, ?_, by simp; omega⟩
          · rw [← List.append_assoc, List.map_append (l₁ := W' ++ X'), List.map_append (l₁ := R')]
            exact S7
          · rw [← List.append_assoc]; exact t3
      · rintro σ H5 ⟨R', X', v5, rfl, S5, h1, hlen⟩
        rw [List.length_map] at h1
        have hRl' : R'.length ≤ 8 := Nat.le_trans (pigeon rows.length R' h1.nd fun x hx => ⟨(h1.ok x hx).1, (h1.ok x hx).2.1⟩) hn
        exact ⟨(R', W' ++ X'), by simp; omega, some (.ref tb), v5, rfl, S5, h1.finish hr1⟩
end
end Rw

namespace Rw
open PySem PySem.Spec PyProof.Rows L2
local macro_rules | `(tactic| walk_at "go1") => `(tactic| first
  | (with_reducible refine w_seq ?_)
  | (with_reducible refine w_asg ?_)
  | (with_reducible refine w_name ?_)
  | (with_reducible refine w_drop ?_)
  | (with_reducible refine w_ret ?_)
  | (with_reducible refine w_next ?_)
  | (with_reducible refine w_op ?_)
  | (with_reducible refine w_un ?_)
  | (with_reducible refine w_c ?_)
  | (with_reducible refine w_var (by with_unfolding_all rfl) ?_)
  | (with_reducible refine w_rI0 ?_)
  | (with_reducible refine w_rU ?_)
  | ((with_reducible refine w_mod ?_ ?_); (show (0 : Int) < _); omega)
  | ((with_reducible refine w_div ?_ ?_); exact And.intro (by omega) (by omega))
  | ((with_reducible refine w_mul ?_ ?_); (first | exact Or.inl (And.intro (by omega) (by omega)) | exact Or.inr (And.intro (by omega) (by omega))))
  | (with_reducible refine w_ifS ?_)
  | (with_reducible refine w_if ?_)
  | (with_reducible refine w_test ?_)
  | (with_reducible refine w_B ?_)
  | (with_reducible refine w_bl ?_)
  | (with_reducible refine w_not ?_)
  | (with_reducible refine w_and ?_)
  | (with_reducible refine w_or ?_)
  | (with_reducible refine w_cons ?_)
  | (with_reducible refine w_nil ?_)
  | (with_reducible refine w_call ?_)
  | (with_reducible refine w_cb ?_)
  | (with_reducible refine w_bm0 ?_)
  | (with_reducible refine w_bm ?_)
  | (with_reducible refine w_tlst ?_)
  | (with_reducible refine w_ttup ?_)
  | (with_reducible refine w_sub ?_)
  | (with_reducible refine w_for ?_)
  | (with_reducible refine w_rng1 ?_)
  | ((with_reducible refine w_rngE ?_ ?_ ?_); omega; omega)
  | (with_reducible refine w_iL ?_)
  | (with_reducible refine w_iT ?_)
  | (with_reducible refine w_iE ?_)
  | (with_reducible refine w_iZ ?_)
  | (with_reducible refine w_lc ?_)
  | (with_reducible refine w_yes ?_)
  | (with_reducible refine w_gcons ?_)
  | (with_reducible refine w_gnil ?_)
  | (with_reducible refine w_max2 ?_)
  | (with_reducible refine w_sl ?_)
  | (with_reducible refine w_part ?_)
  | (with_reducible refine w_partI ?_)
  | (with_reducible refine w_nopart ?_)
  | (with_reducible refine w_isT ?_)
  | (with_reducible refine w_notT ?_)
  | (with_reducible refine w_isB ?_)
  | (with_reducible refine w_notB ?_)
  | (with_reducible refine w_isN ?_)
  | (with_reducible refine w_notN ?_)
  | (with_reducible refine w_fld ?_)
  | (with_reducible refine w_ftm ?_)
  | (with_reducible refine w_lrg ?_)
  | (with_reducible refine w_rg1 ?_)
  | (with_reducible refine w_rg1E ?_)
  | (with_reducible refine w_tru ?_)
  | (with_reducible refine w_truB ?_)
  | (with_reducible refine w_truI ?_)
  | (with_reducible refine w_notT' ?_)
  | (with_reducible refine w_andT ?_)
  | (with_reducible refine w_orT ?_)
  | (with_reducible refine w_andV ?_)
  | (with_reducible refine w_orV ?_)
  | (with_reducible refine w_andE ?_)
  | (with_reducible refine w_orE ?_)
  | (with_reducible refine w_notV ?_)
  | (with_reducible refine w_notE ?_)
  | (with_reducible refine w_chain ?_)
  | (with_reducible refine w_chainI ?_)
  | (with_reducible refine w_meth ?_)
  | (with_reducible refine w_make ?_)
  | (with_reducible refine w_sfld ?_))
local macro_rules | `(tactic| walk_at "go") => `(tactic| repeat walk_at "go1")

local macro_rules | `(tactic| walk_at "go1") => `(tactic| first
  | (with_reducible refine w_callX ?_)
  | (with_reducible refine w_methX ?_)
  | (with_reducible refine w_makeX ?_))
/-! ### the web -/
structure WebAt (C : Addr) (H : Hp) (a : Addr) (rows : List (List Int)) : Prop where
  ex : ∃ dx t, H a = some (.ins C dx [("_ways", .ref t)]) ∧ TW H t rows
theorem WebAt.mono {C : Addr} {H H' : Hp} {a : Addr} {rows : List (List Int)} (e : Same H H') (h : WebAt C H a rows) : WebAt C H' a rows := by
  obtain ⟨dx, t, h1, h2⟩ := h.ex
  exact ⟨dx, t, e _ _ h1, h2.mono e⟩
structure WebT (K : PySem.W.Frag) (mg : Str → Option Value) (C : Addr) : Prop where
  cl : Cls K C
  nw : NoAttr K C "_ways"
def sumI (f : List Int → Int) (rows : List (List Int)) : Int := (rows.map f).sum
def waysIn (rows : List (List Int)) (i : Int) : Int := (rows.map fun r => ((r.count i : Nat) : Int)).sum
def Joined (rows : List (List Int)) : Prop := ∀ i x : Int, 0 ≤ i → i < (rows.length : Int) → 0 ≤ x → x < (rows.length : Int) → Rch rows i x
def Balanced (rows : List (List Int)) : Prop := ∀ (i : Nat) (r : List Int), rows[i]? = some r → waysIn rows (i : Int) = (r.length : Int)
structure EvenW (rows : List (List Int)) : Prop where
  noRest : ∀ r ∈ rows, r ≠ []
  bal : Balanced rows
  join : Joined rows
def restsTo (rows : List (List Int)) (n : Nat) : List Int := ((List.range n).filter fun i => rows[i]? == some []).map fun i : Nat => (i : Int)
def spMany (C : Addr) : Sp := fun vs H Q _ => ∃ (a : Addr) (rows : List (List Int)), vs = [.ref a] ∧ WebAt C H a rows ∧ Q (.int (rows.length : Nat)) H
def spCheck (C : Addr) : Sp := fun vs H Q _ => ∃ (a : Addr) (rows : List (List Int)) (i : Int), vs = [.ref a, .int i] ∧ WebAt C H a rows ∧ 0 ≤ i ∧ i < (rows.length : Int) ∧ Q .non H
def spIsRest (C : Addr) : Sp := fun vs H Q _ => ∃ (a : Addr) (rows : List (List Int)) (i : Int) (r : List Int), vs = [.ref a, .int i] ∧ WebAt C H a rows ∧ 0 ≤ i ∧ rows[i.toNat]? = some r ∧ Q (.bl r.isEmpty) H
def spComes (C : Addr) : Sp := fun vs H Q _ => ∃ (B : Hp) (M : List (Addr × HO)) (a : Addr) (rows : List (List Int)) (i j : Int), vs = [.ref a, .int i, .int j] ∧ Hs B M H ∧ WebAt C B a rows ∧ Valid rows ∧ 0 ≤ i ∧ i < (rows.length : Int) ∧ 0 ≤ j ∧ j < (rows.length : Int) ∧
  ∀ (b : Bool) (H' : Hp), Hs B M H' → (b = true ↔ Rch rows i j) → Q (.bl b) H'
def spWaysIn : Sp := fun vs H Q _ => ∃ (B : Hp) (M : List (Addr × HO)) (t : Addr) (rows : List (List Int)) (i : Int), vs = [.ref t, .int i] ∧ Hs B M H ∧ TW B t rows ∧ Valid rows ∧ ∀ H', Hs B M H' → Q (.int (waysIn rows i)) H'
def spRowsM (C : Addr) : Sp := fun vs H Q _ => ∃ (B : Hp) (M : List (Addr × HO)) (a : Addr) (rows : List (List Int)), vs = [.ref a] ∧ Hs B M H ∧ WebAt C B a rows ∧ Valid rows ∧
  ∀ (p : Addr) (as : List Addr) (B' H' : Hp), Same B B' → Hs B' ((p, .lst (as.map V.ref)) :: M) H' → LR B' as rows → (∀ x ∈ as, B x = none) → Q (.ref p) H'
def spRests (C : Addr) : Sp := fun vs H Q _ => ∃ (B : Hp) (M : List (Addr × HO)) (a : Addr) (rows : List (List Int)), vs = [.ref a] ∧ Hs B M H ∧ WebAt C B a rows ∧ Valid rows ∧
  ∀ (p : Addr) (H' : Hp), Hs B ((p, .lst ((restsTo rows rows.length).map V.int)) :: M) H' → Q (.ref p) H'
def spBool (C : Addr) (φ : List (List Int) → Prop) : Sp := fun vs H Q _ => ∃ (B : Hp) (M : List (Addr × HO)) (a : Addr) (rows : List (List Int)), vs = [.ref a] ∧ Hs B M H ∧ WebAt C B a rows ∧ Valid rows ∧
  ∀ (b : Bool) (H' : Hp), Hs B M H' → (b = true ↔ φ rows) → Q (.bl b) H'
def spInit (C : Addr) : Sp := fun vs H Q _ => ∃ (B : Hp) (M : List (Addr × HO)) (x dx p : Addr) (rows : List (List Int)), vs = [.ref x, .ref p] ∧ Hs B ((x, .ins C dx []) :: (dx, .own x) :: M) H ∧ LL B p rows ∧ Valid rows ∧
  ∀ B' H', Same B B' → Hs B' M H' → WebAt C B' x rows → Q .non H'
/-! ### what is no place -/
def spCheckX (C CP : Addr) : Sp := fun vs H Q E => ∃ (a : Addr) (rows : List (List Int)) (v : V) (b : Bool), vs = [.ref a, v] ∧ WebAt C H a rows ∧ PlD H (rows.length : Nat) v b ∧ (b = true → Q .non H) ∧ (b = false → rows.length ≤ 8 ∧ E (.ref CP) none H)
def spIsRestX (C CP : Addr) : Sp := fun vs H Q E => ∃ (a : Addr) (rows : List (List Int)) (v : V) (b : Bool), vs = [.ref a, v] ∧ WebAt C H a rows ∧ PlD H (rows.length : Nat) v b ∧ (b = true → ∀ (i : Int) (r : List Int), v = .int i → 0 ≤ i → rows[i.toNat]? = some r → Q (.bl r.isEmpty) H) ∧ (b = false → rows.length ≤ 8 ∧ E (.ref CP) none H)
-- __init__: 0 self, 1 rows, 2 row
abbrev s_Web_init : Stmt := inClass (top 18) 0
theorem sc_Web_init : FnScope ["self", "rows", "row"] ["self", "rows"] (defScope s_Web_init) := ⟨rfl, rfl, rfl, by decide +kernel, rfl, by decide +kernel, by decide +kernel⟩
-- rows: 0 self, 1 row
abbrev s_Web_rows : Stmt := inClass (top 18) 1
theorem sc_Web_rows : FnScope ["self", "row"] ["self"] (defScope s_Web_rows) := ⟨rfl, rfl, rfl, by decide +kernel, rfl, by decide +kernel, by decide +kernel⟩
-- many: 0 self
abbrev s_Web_many : Stmt := inClass (top 18) 2
theorem sc_Web_many : FnScope ["self"] ["self"] (defScope s_Web_many) := ⟨rfl, rfl, rfl, by decide +kernel, rfl, by decide +kernel, by decide +kernel⟩
-- is_rest: 0 self, 1 place
abbrev s_Web_is_rest : Stmt := inClass (top 18) 4
theorem sc_Web_is_rest : FnScope ["self", "place"] ["self", "place"] (defScope s_Web_is_rest) := ⟨rfl, rfl, rfl, by decide +kernel, rfl, by decide +kernel, by decide +kernel⟩
-- comes: 0 self, 1 place, 2 other
abbrev s_Web_comes : Stmt := inClass (top 18) 5
theorem sc_Web_comes : FnScope ["self", "place", "other"] ["self", "place", "other"] (defScope s_Web_comes) := ⟨rfl, rfl, rfl, by decide +kernel, rfl, by decide +kernel, by decide +kernel⟩
-- check_place: 0 self, 1 place
abbrev s_Web_check_place : Stmt := inClass (top 18) 7
theorem sc_Web_check_place : FnScope ["self", "place"] ["self", "place"] (defScope s_Web_check_place) := ⟨rfl, rfl, rfl, by decide +kernel, rfl, by decide +kernel, by decide +kernel⟩
section
variable {P : Program} {w : World} {K : PySem.W.Frag} {mg : Str → Option Value} {base : Heap} {CW CP CB : Addr}
theorem ok_many (T : Names mg) (TW_ : WebT K mg CW) (G : GloM K CW "many" "Web.many" s_Web_many) : CalM P w K mg base CW "many" 1 ["self"] (spMany CW) := by
  refine G.cal (k := 0) sc_Web_many (fun _ _ _ _ _ _ us hl => match us, hl with | [_], _ => rfl) (fun vs H Q E h => ?_) (fun f cdv A outer s H vs Q E hr h => ?_)
  · obtain ⟨a, rows, rfl, _⟩ := h; rfl
  obtain ⟨a, rows, rfl, ⟨dx, t, ha, ts, ht, hT⟩, hQ⟩ := h
  have htl := hT.length
  refine ⟨_, (pss_one (ps_ret (pe_callB (k_len K) rfl T.n_len boot_len (pa_cons (pe_fldK K (pv 0) rfl) pa_nil)))), ?_⟩
  walk_at "go"
  refine w_fldE ha TW_.cl TW_.nw look1 ?_
  walk_at "go"
  refine w_lenT ht.sq ?_
  rw [List.length_map, htl]
  exact hQ
theorem ok_rowsM (T : Names mg) (TW_ : WebT K mg CW) (G : GloM K CW "rows" "Web.rows" s_Web_rows) : CalM P w K mg base CW "rows" 1 ["self"] (spRowsM CW) := by
  refine G.cal (k := 0) sc_Web_rows (fun _ _ _ _ _ _ us hl => match us, hl with | [_], _ => rfl) (fun vs H Q E h => ?_) (fun f cdv A outer s H vs Q E hr h => ?_)
  · obtain ⟨B, M, a, rows, rfl, _⟩ := h; rfl
  obtain ⟨B, M, a, rows, rfl, S, ⟨dx, t, ha, ts, ht, hT⟩, hv, hQ⟩ := h
  have hle := hv.le
  have htl := hT.length
  refine ⟨_, (pss_one (ps_ret (pe_lc (own := [("row", 1)]) rfl sc_Web_rows.nd (pi_tupK K (pe_fldK K (pv 0) rfl)) (blkOk_by (own := [("row", 1)]) (N := ["self", "row"]) (sc := defScope s_Web_rows) (by decide +kernel)) (fun _ _ _ _ _ => (pg_name (i := 1) sc_Web_rows.nd rfl (Or.inl rfl))) (fun _ _ _ _ _ => pts_nil) (fun _ _ _ _ _ => (pe_callTy (k_list K) rfl T.n_list (by decide +kernel) (pa_cons (pv 1) pa_nil)))))), ?_⟩
  walk_at "go"
  refine w_fldE (S.ex _ _ ha) TW_.cl TW_.nw look1 ?_
  refine w_iTE ((ht.mono S.ex).sq) ?_
  refine lc_F S ht (fun i B' acc => ∃ as : List Addr, acc = as.map V.ref ∧ LR B' as (rows.take i) ∧ ∀ x ∈ as, B x = none) ⟨[], rfl, .nil, by simp⟩ ?_ ?_
  · rintro i x D B' acc H' hi hli e S' ⟨as, rfl, hR, hf⟩
    obtain ⟨b, hb, rfl⟩ : ∃ b, ts[i]? = some b ∧ V.ref b = x := by simpa using hi
    have hil : i < ts.length := (List.getElem?_eq_some_iff.mp hb).1
    obtain ⟨r, hr1, hr2⟩ : ∃ r, rows[i]? = some r ∧ FT B b (r.map V.int) := by
      have hir : i < rows.length := by omega
      obtain ⟨b', h1, h2⟩ := hT.get (i := i) (List.getElem?_eq_getElem hir)
      rw [hb] at h1; cases h1
      exact ⟨_, List.getElem?_eq_getElem hir, h2⟩
    walk_at "go"
    refine ⟨rfl, ?_⟩
    walk_at "go"
    refine iteT ?_
    walk_at "go"
    refine w_listT S' ((hr2.mono e).mono S'.ex).sq fun q H2 S2 => ?_
    obtain ⟨B2, e2, hq, S3⟩ := S2.shut 0
    refine lcp S3 (e.trans e2) hli (by omega) ⟨as ++ [q], by simp, ?_, ?_⟩
    · rw [List.take_add_one, hr1]
      exact (hR.mono e2).snoc hq
    · intro x hx
      rcases List.mem_append.mp hx with z | z
      · exact hf x z
      · rw [List.mem_singleton.mp z]
        exact e.free (S2.out 0)
  · rintro D B' acc H' e S' hli ⟨as, rfl, hR, hf⟩
    have e1 : rows.take (ts.map V.ref).length = rows := List.take_of_length_le (by simp; omega)
    rw [e1] at hR
    exact hQ D as B' H' e S' hR hf
theorem ok_checkX (T : Names mg) (T_Web : Cls K CW) (R_BadPlace : ErrT K mg "BadPlace" CP) (G : GloM K CW "check_place" "Web.check_place" s_Web_check_place) (C_is_number : Cal P w K mg base "is_number" 1 ["thing", "least", "most"] spNum) (C_Web_many : CalM P w K mg base CW "many" 1 ["self"] (spMany CW)) : CalMX P w K mg base CW "check_place" 2 ["self", "place"] (spCheckX CW CP) := by
  refine G.calX (k := 1) sc_Web_check_place (fun _ _ _ _ _ _ us hl => match us, hl with | [_, _], _ => rfl) (fun vs H Q E h => ?_) (fun f cdv A outer s H vs Q E hr h => ?_)
  · obtain ⟨a, rows, i, b, rfl, _⟩ := h; rfl
  obtain ⟨a, rows, i, b, rfl, hw, hp, hQ, hE⟩ := h
  obtain ⟨dx, t, ha, _⟩ := hw.ex
  refine ⟨_, (pss_one (ps_if (pt_not (pt_val (pe_cal C_is_number hr rfl (pa_cons (pv 1) (pa_cons pe_int (pa_cons (pe_op op_sub (pe_calM0 (pv 0) T_Web C_Web_many hr) pe_int) pa_nil)))))) (pss_one (ps_raiseE R_BadPlace rfl (takes_of rfl rfl rfl rfl) (pe_joined (.cons pe_str (.cons (pe_fmt (pe_op op_sub (pe_calM0 (pv 0) T_Web C_Web_many hr) pe_int)) .nil))) rfl)) pss_nil)), ?_⟩
  walk_at "go"
  refine w_methE ha (look1n (by decide +kernel)) ?_
  walk_at "go"
  refine ⟨a, rows, rfl, hw, ?_⟩
  walk_at "go"
  refine ⟨i, 0, _, b, rfl, hp.num, ?_⟩
  walk_at "go"
  cases b with
  | true =>
    refine iteF ?_
    exact hQ rfl
  | false =>
    obtain ⟨hle, hE⟩ := hE rfl
    refine iteT ?_
    refine w_jsC 0 (Nat.le_refl _) (k := fun acc hacc => ?_)
    refine w_jsF ?_
    walk_at "go"
    refine w_methE ha (look1n (by decide +kernel)) ?_
    walk_at "go"
    refine ⟨a, rows, rfl, hw, ?_⟩
    walk_at "go"
    refine w_fmtI _ hacc (by decide +kernel) (by omega) fun acc' _ => ?_
    exact hE
theorem plD_true {H : Hp} {m : Int} {v : V} (h : PlD H m v true) : ∃ i, v = .int i ∧ 0 ≤ i ∧ i < m := by
  generalize e : true = b at h
  cases h with
  | int i => exact ⟨i, rfl, of_decide_eq_true e.symm⟩
  | oth t h => cases e
theorem plD_int {H : Hp} {m i : Int} (h0 : 0 ≤ i) (h1 : i < m) : PlD H m (.int i) true := by
  rw [← decide_eq_true (show 0 ≤ i ∧ i < m from ⟨h0, h1⟩)]
  exact .int i
theorem good_check (F : CalMX P w K mg base CW "check_place" 2 ["self", "place"] (spCheckX CW CP)) : CalM P w K mg base CW "check_place" 2 ["self", "place"] (spCheck CW) := by
  refine F.calm (fun vs H Q h => ?_) fun vs H Q E h => h
  obtain ⟨a, rows, i, rfl, hw, h0, h1, hQ⟩ := h
  exact ⟨a, rows, .int i, true, rfl, hw, plD_int h0 h1, fun _ => hQ, fun z => nomatch z⟩
theorem ok_is_restX (T : Names mg) (TW_ : WebT K mg CW) (T_Web : Cls K CW) (G : GloM K CW "is_rest" "Web.is_rest" s_Web_is_rest) (XC_Web_check_place : CalMX P w K mg base CW "check_place" 2 ["self", "place"] (spCheckX CW CP)) : CalMX P w K mg base CW "is_rest" 3 ["self", "place"] (spIsRestX CW CP) := by
  refine G.calX (k := 2) sc_Web_is_rest (fun _ _ _ _ _ _ us hl => match us, hl with | [_, _], _ => rfl) (fun vs H Q E h => ?_) (fun f cdv A outer s H vs Q E hr h => ?_)
  · obtain ⟨a, rows, i, b, rfl, _⟩ := h; rfl
  obtain ⟨a, rows, v, b, rfl, hw, hp, hQ, hE⟩ := h
  obtain ⟨dx, t, ha, ts, ht, hT⟩ := hw.ex
  refine ⟨_, (pss_cons (ps_expr (pe_calMX (pv 0) T_Web XC_Web_check_place hr (takes_of rfl rfl rfl rfl) (fun _ _ _ _ h => h) (pa_cons (pv 1) pa_nil))) (pss_one (ps_ret (pe_notTK K (pe_ix (k_ixT K) (pe_fldK K (pv 0) rfl) (pv 1) (fun _ _ => rfl)))))), ?_⟩
  walk_at "go"
  refine w_methXE ha (look1n (by decide +kernel)) ?_
  walk_at "go"
  refine ⟨a, rows, v, b, rfl, hw, hp, fun hb => ?_, hE⟩
  subst hb
  obtain ⟨i, rfl, h0, h1⟩ := plD_true hp
  have hr0 : rows[i.toNat]? = some (rows[i.toNat]'(by omega)) := List.getElem?_eq_getElem (by omega)
  generalize rows[i.toNat]'(by omega) = r at hr0
  obtain ⟨tb, htb, hr2⟩ := hT.get hr0
  walk_at "go"
  refine w_fldE ha TW_.cl TW_.nw look1 ?_
  walk_at "go"
  refine w_ixT (v := .ref tb) ht.sq (at_of (j := i.toNat) (by omega) (by rw [List.getElem?_map, htb]; rfl)) ?_
  refine w_truT hr2.sq ?_
  rw [show (!!(List.map V.int r).isEmpty) = r.isEmpty by cases r <;> rfl]
  exact hQ rfl i r rfl h0 hr0
theorem good_is_rest (F : CalMX P w K mg base CW "is_rest" 3 ["self", "place"] (spIsRestX CW CP)) : CalM P w K mg base CW "is_rest" 3 ["self", "place"] (spIsRest CW) := by
  refine F.calm (fun vs H Q h => ?_) fun vs H Q E h => h
  obtain ⟨a, rows, i, r, rfl, hw, h0, hr, hQ⟩ := h
  have h1 := (List.getElem?_eq_some_iff.mp hr).1
  refine ⟨a, rows, .int i, true, rfl, hw, plD_int h0 (by omega), fun _ j r' ej _ er => ?_, fun z => nomatch z⟩
  cases ej
  rw [hr] at er
  cases er
  exact hQ
theorem ok_comes (T : Names mg) (TW_ : WebT K mg CW) (T_Web : Cls K CW) (G : GloM K CW "comes" "Web.comes" s_Web_comes) (C_Web_check_place : CalM P w K mg base CW "check_place" 2 ["self", "place"] (spCheck CW)) (C_reached : Cal P w K mg base "_reached" 2 ["ways", "start"] spReached) : CalM P w K mg base CW "comes" 3 ["self", "place", "other"] (spComes CW) := by
  refine G.cal (k := 2) sc_Web_comes (fun _ _ _ _ _ _ us hl => match us, hl with | [_, _, _], _ => rfl) (fun vs H Q E h => ?_) (fun f cdv A outer s H vs Q E hr h => ?_)
  · obtain ⟨B, M, a, rows, i, j, rfl, _⟩ := h; rfl
  obtain ⟨B, M, a, rows, i, j, rfl, S, hw, hv, i0, i1, j0, j1, hQ⟩ := h
  obtain ⟨dx, t, ha, hT⟩ := hw.ex
  refine ⟨_, (pss_cons (ps_expr (pe_calM (pv 0) T_Web C_Web_check_place hr (pa_cons (pv 1) pa_nil))) (pss_cons (ps_expr (pe_calM (pv 0) T_Web C_Web_check_place hr (pa_cons (pv 2) pa_nil))) (pss_one (ps_ret (pe_cmpR (k_in K) (pv 2) (pe_cal C_reached hr rfl (pa_cons (pe_fldK K (pv 0) rfl) (pa_cons (pv 1) pa_nil))) (by rfl)))))), ?_⟩
  walk_at "go"
  refine w_methE (S.ex _ _ ha) (look1n (by decide +kernel)) ?_
  walk_at "go"
  refine ⟨a, rows, i, rfl, hw.mono S.ex, i0, i1, ?_⟩
  walk_at "go"
  refine w_methE (S.ex _ _ ha) (look1n (by decide +kernel)) ?_
  walk_at "go"
  refine ⟨a, rows, j, rfl, hw.mono S.ex, j0, j1, ?_⟩
  walk_at "go"
  refine w_fldE (S.ex _ _ ha) TW_.cl TW_.nw look1 ?_
  walk_at "go"
  refine ⟨B, M, t, rows, i, rfl, S, hT, hv, i0, i1, fun p H' R S' nd hR => ?_⟩
  refine w_inL (sqL_of (S'.get 0)) rfl (flat_ints _) ?_
  rw [inV_int]
  refine hQ _ _ (S'.drop 0) ?_
  show decide (j ∈ R) = true ↔ _
  rw [decide_eq_true_eq]
  exact hR j
/-! what is no place, no web -/
def spComesX (C CP : Addr) : Sp := fun vs H Q E => ∃ (a : Addr) (rows : List (List Int)) (u v : V) (b c : Bool), vs = [.ref a, u, v] ∧ WebAt C H a rows ∧ rows.length ≤ 8 ∧ PlD H (rows.length : Nat) u b ∧ PlD H (rows.length : Nat) v c ∧ (b && c) = false ∧ E (.ref CP) none H
theorem ok_comesX (T : Names mg) (TW_ : WebT K mg CW) (T_Web : Cls K CW) (G : GloM K CW "comes" "Web.comes" s_Web_comes) (XC_Web_check_place : CalMX P w K mg base CW "check_place" 2 ["self", "place"] (spCheckX CW CP)) (C_reached : Cal P w K mg base "_reached" 2 ["ways", "start"] spReached) : CalMX P w K mg base CW "comes" 3 ["self", "place", "other"] (spComesX CW CP) := by
  refine G.calX (k := 2) sc_Web_comes (fun _ _ _ _ _ _ us hl => match us, hl with | [_, _, _], _ => rfl) (fun vs H Q E h => ?_) (fun f cdv A outer s H vs Q E hr h => ?_)
  · obtain ⟨a, rows, i, j, b, c, rfl, _⟩ := h; rfl
  obtain ⟨a, rows, i, j, b, c, rfl, hw, hle, hp, hq, hbc, hE⟩ := h
  obtain ⟨dx, t, ha, ts, ht, hT⟩ := hw.ex
  refine ⟨_, (pss_cons (ps_expr (pe_calMX (pv 0) T_Web XC_Web_check_place hr (takes_of rfl rfl rfl rfl) (fun _ _ _ _ h => h) (pa_cons (pv 1) pa_nil))) (pss_cons (ps_expr (pe_calMX (pv 0) T_Web XC_Web_check_place hr (takes_of rfl rfl rfl rfl) (fun _ _ _ _ h => h) (pa_cons (pv 2) pa_nil))) (pss_one (ps_ret (pe_cmpR (k_in K) (pv 2) (pe_cal C_reached hr rfl (pa_cons (pe_fldK K (pv 0) rfl) (pa_cons (pv 1) pa_nil))) (by rfl)))))), ?_⟩
  walk_at "go"
  refine w_methXE ha (look1n (by decide +kernel)) ?_
  walk_at "go"
  refine ⟨a, rows, i, b, rfl, hw, hp, fun hb => ?_, fun _ => ⟨hle, hE⟩⟩
  walk_at "go"
  refine w_methXE ha (look1n (by decide +kernel)) ?_
  walk_at "go"
  refine ⟨a, rows, j, c, rfl, hw, hq, fun hc => ?_, fun _ => ⟨hle, hE⟩⟩
  rw [hb, hc] at hbc
  cases hbc
def spInitX (CB : Addr) : Sp := fun vs H Q E => ∃ (B : Hp) (M : List (Addr × HO)) (x : Addr) (v : V), vs = [.ref x, v] ∧ Hs B M H ∧ WbD B v false ∧ ∀ H', Hs B M H' → E (.ref CB) none H'
theorem ok_initX (T : Names mg) (TW_ : WebT K mg CW) (R_BadWeb : ErrT K mg "BadWeb" CB) (G : GloC K mg CW "Web" "Web.__init__" s_Web_init) (C_is_web : Cal P w K mg base "is_web" 3 ["thing"] spIsWebD) : CalCX P w K mg base CW "Web" 4 ["self", "rows"] (spInitX CB) := by
  refine G.calX (k := 3) sc_Web_init (fun _ _ _ _ _ _ us hl => match us, hl with | [_, _], _ => rfl) (fun vs H Q E h => ?_) (fun f cdv A outer s H vs Q E hr h => ?_)
  · obtain ⟨B, M, x, v, rfl, _⟩ := h; rfl
  obtain ⟨B, M, x, v, rfl, S, hd, hE⟩ := h
  refine ⟨_, (pss_cons (ps_if (pt_not (pt_val (pe_cal C_is_web hr rfl (pa_cons (pv 1) pa_nil)))) (pss_one (ps_raiseE R_BadWeb rfl (takes_of rfl rfl rfl rfl) pe_str rfl)) pss_nil) (pss_one (ps_fldK K (pv 0) (pe_callTy (k_tupF K) rfl T.n_tuple (by decide +kernel) (pa_cons (pe_lc (own := [("row", 2)]) rfl sc_Web_init.nd (pi_listK K (pv 1)) (blkOk_by (own := [("row", 2)]) (N := ["self", "rows", "row"]) (sc := defScope s_Web_init) (by decide +kernel)) (fun _ _ _ _ _ => (pg_name (i := 2) sc_Web_init.nd rfl (Or.inl rfl))) (fun _ _ _ _ _ => pts_nil) (fun _ _ _ _ _ => (pe_callTy (k_tupF K) rfl T.n_tuple (by decide +kernel) (pa_cons (pv 2) pa_nil)))) pa_nil)) rfl))), ?_⟩
  walk_at "go"
  refine ⟨B, _, v, false, rfl, S, hd, fun H1 S1 => ?_⟩
  walk_at "go"
  refine iteT ?_
  exact hE _ S1
theorem ok_init (T : Names mg) (TW_ : WebT K mg CW) (G : GloC K mg CW "Web" "Web.__init__" s_Web_init) (C_is_web : Cal P w K mg base "is_web" 3 ["thing"] spIsWebD) : CalC P w K mg base CW "Web" 4 ["self", "rows"] (spInit CW) := by
  refine G.cal (k := 3) sc_Web_init (fun _ _ _ _ _ _ us hl => match us, hl with | [_, _], _ => rfl) (fun vs H Q E h => ?_) (fun f cdv A outer s H vs Q E hr h => ?_)
  · obtain ⟨B, M, x, dx, p, rows, rfl, _⟩ := h; rfl
  obtain ⟨B, M, x, dx, p, rows, rfl, S, ⟨as, hp, hR⟩, hv, hQ⟩ := h
  have hle := hv.le
  have hal := hR.length
  refine ⟨_, (pss_cons (ps_if (pt_not (pt_val (pe_cal C_is_web hr rfl (pa_cons (pv 1) pa_nil)))) (pss_one ps_never) pss_nil) (pss_one (ps_fldK K (pv 0) (pe_callTy (k_tupF K) rfl T.n_tuple (by decide +kernel) (pa_cons (pe_lc (own := [("row", 2)]) rfl sc_Web_init.nd (pi_listK K (pv 1)) (blkOk_by (own := [("row", 2)]) (N := ["self", "rows", "row"]) (sc := defScope s_Web_init) (by decide +kernel)) (fun _ _ _ _ _ => (pg_name (i := 2) sc_Web_init.nd rfl (Or.inl rfl))) (fun _ _ _ _ _ => pts_nil) (fun _ _ _ _ _ => (pe_callTy (k_tupF K) rfl T.n_tuple (by decide +kernel) (pa_cons (pv 2) pa_nil)))) pa_nil)) rfl))), ?_⟩
  walk_at "go"
  refine ⟨B, _, .ref p, true, rfl, S, wbD_good ⟨as, hp, hR⟩ hv, fun H1 S1 => ?_⟩
  walk_at "go"
  refine iteF ?_
  walk_at "go"
  refine w_iLE (sqL_of (S1.ex _ _ hp)) ?_
  refine lc_L S1 hp (fun i B' acc => ∃ ts : List Addr, acc = ts.map V.ref ∧ TR B' ts (rows.take i)) ⟨[], rfl, .nil⟩ ?_ ?_
  · rintro i y D B' acc H' hi hli e S' ⟨ts, rfl, hT⟩
    obtain ⟨b, hb, rfl⟩ : ∃ b, as[i]? = some b ∧ V.ref b = y := by simpa using hi
    have hil : i < as.length := (List.getElem?_eq_some_iff.mp hb).1
    obtain ⟨r, hr1, hr2⟩ : ∃ r, rows[i]? = some r ∧ LI B b r := by
      have hir : i < rows.length := by omega
      obtain ⟨b', h1, h2⟩ := hR.get (i := i) (List.getElem?_eq_getElem hir)
      rw [hb] at h1; cases h1
      exact ⟨_, List.getElem?_eq_getElem hir, h2⟩
    walk_at "go"
    refine ⟨rfl, ?_⟩
    walk_at "go"
    refine iteT ?_
    walk_at "go"
    refine w_tupF S' (sqL_of (S'.ex _ _ (e _ _ hr2))) fun q o H2 hc hd S2 => ?_
    obtain ⟨B2, e2, hq, S3⟩ := S2.shut 0
    refine lcp S3 (e.trans e2) hli (by omega) ⟨ts ++ [q], by simp, ?_⟩
    rw [List.take_add_one, hr1]
    exact (hT.mono e2).snoc ⟨o, hc, hd, hq⟩
  · rintro D B' acc H' e S' hli ⟨ts, rfl, hT⟩
    have e1 : rows.take (as.map V.ref).length = rows := List.take_of_length_le (by simp; omega)
    rw [e1] at hT
    walk_at "go"
    refine w_tupF S' (sqL_of (S'.get 0)) fun q o H2 hc hd S2 => ?_
    obtain ⟨B2, e2, hq, S3⟩ := (S2.drop 1).shut 0
    walk_at "go"
    refine w_sfldE S3 0 rfl TW_.cl TW_.nw (by simp) fun H3 S4 => ?_
    obtain ⟨B3, e3, hx, S5⟩ := S4.shut 0
    refine hQ B3 H3 ((e.trans e2).trans e3) (S5.drop 0) ⟨dx, q, hx, ts, ?_, (hT.mono e2).mono e3⟩
    exact ⟨o, hc, hd, e3 _ _ hq⟩
end
end Rw

namespace Rw
open PySem PySem.Spec PyProof.Rows L2
local macro_rules | `(tactic| walk_at "go1") => `(tactic| first
  | (with_reducible refine w_seq ?_)
  | (with_reducible refine w_asg ?_)
  | (with_reducible refine w_name ?_)
  | (with_reducible refine w_drop ?_)
  | (with_reducible refine w_ret ?_)
  | (with_reducible refine w_next ?_)
  | (with_reducible refine w_op ?_)
  | (with_reducible refine w_un ?_)
  | (with_reducible refine w_c ?_)
  | (with_reducible refine w_var (by with_unfolding_all rfl) ?_)
  | (with_reducible refine w_rI0 ?_)
  | (with_reducible refine w_rU ?_)
  | ((with_reducible refine w_mod ?_ ?_); (show (0 : Int) < _); omega)
  | ((with_reducible refine w_div ?_ ?_); exact And.intro (by omega) (by omega))
  | ((with_reducible refine w_mul ?_ ?_); (first | exact Or.inl (And.intro (by omega) (by omega)) | exact Or.inr (And.intro (by omega) (by omega))))
  | (with_reducible refine w_ifS ?_)
  | (with_reducible refine w_if ?_)
  | (with_reducible refine w_test ?_)
  | (with_reducible refine w_B ?_)
  | (with_reducible refine w_bl ?_)
  | (with_reducible refine w_not ?_)
  | (with_reducible refine w_and ?_)
  | (with_reducible refine w_or ?_)
  | (with_reducible refine w_cons ?_)
  | (with_reducible refine w_nil ?_)
  | (with_reducible refine w_call ?_)
  | (with_reducible refine w_cb ?_)
  | (with_reducible refine w_bm0 ?_)
  | (with_reducible refine w_bm ?_)
  | (with_reducible refine w_tlst ?_)
  | (with_reducible refine w_ttup ?_)
  | (with_reducible refine w_sub ?_)
  | (with_reducible refine w_for ?_)
  | (with_reducible refine w_rng1 ?_)
  | ((with_reducible refine w_rngE ?_ ?_ ?_); omega; omega)
  | (with_reducible refine w_iL ?_)
  | (with_reducible refine w_iT ?_)
  | (with_reducible refine w_iE ?_)
  | (with_reducible refine w_iZ ?_)
  | (with_reducible refine w_lc ?_)
  | (with_reducible refine w_yes ?_)
  | (with_reducible refine w_gcons ?_)
  | (with_reducible refine w_gnil ?_)
  | (with_reducible refine w_max2 ?_)
  | (with_reducible refine w_sl ?_)
  | (with_reducible refine w_part ?_)
  | (with_reducible refine w_partI ?_)
  | (with_reducible refine w_nopart ?_)
  | (with_reducible refine w_isT ?_)
  | (with_reducible refine w_notT ?_)
  | (with_reducible refine w_isB ?_)
  | (with_reducible refine w_notB ?_)
  | (with_reducible refine w_isN ?_)
  | (with_reducible refine w_notN ?_)
  | (with_reducible refine w_fld ?_)
  | (with_reducible refine w_ftm ?_)
  | (with_reducible refine w_lrg ?_)
  | (with_reducible refine w_rg1 ?_)
  | (with_reducible refine w_rg1E ?_)
  | (with_reducible refine w_tru ?_)
  | (with_reducible refine w_truB ?_)
  | (with_reducible refine w_truI ?_)
  | (with_reducible refine w_notT' ?_)
  | (with_reducible refine w_andT ?_)
  | (with_reducible refine w_orT ?_)
  | (with_reducible refine w_andV ?_)
  | (with_reducible refine w_orV ?_)
  | (with_reducible refine w_andE ?_)
  | (with_reducible refine w_orE ?_)
  | (with_reducible refine w_notV ?_)
  | (with_reducible refine w_notE ?_)
  | (with_reducible refine w_chain ?_)
  | (with_reducible refine w_chainI ?_)
  | (with_reducible refine w_meth ?_)
  | (with_reducible refine w_make ?_)
  | (with_reducible refine w_sfld ?_))
local macro_rules | `(tactic| walk_at "go") => `(tactic| repeat walk_at "go1")

theorem sz_le {n : Nat} (h : n ≤ 100) : n ≤ sizeLine := by rw [sizeLine_eq]; omega
/-! ### the words of an error -/
structure ErrNs (mg : Str → Option Value) (A_WalkError A_BadWeb A_BadHands A_BadPlace A_BadCount A_NoStep A_NotEven A_Endless : Addr) : Prop where
  m_WalkError : mg "WalkError" = some (.ref A_WalkError)
  m_BadWeb : mg "BadWeb" = some (.ref A_BadWeb)
  m_BadHands : mg "BadHands" = some (.ref A_BadHands)
  m_BadPlace : mg "BadPlace" = some (.ref A_BadPlace)
  m_BadCount : mg "BadCount" = some (.ref A_BadCount)
  m_NoStep : mg "NoStep" = some (.ref A_NoStep)
  m_NotEven : mg "NotEven" = some (.ref A_NotEven)
  m_Endless : mg "Endless" = some (.ref A_Endless)
  n_ValueError : mg "ValueError" = none
  n_isinstance : mg "isinstance" = none
/-- what the error class D is -/
structure WordOf (K : PySem.W.Frag) (A_WalkError A_BadWeb A_BadHands A_BadPlace A_BadCount A_NoStep A_NotEven A_Endless : Addr) (D : Addr) (b1 b2 b3 b4 b5 b6 : Bool) : Prop where
  ec : ExcC K D
  tk : PySem.W.exmOne K (.ref D) (.ref A_WalkError) = some true
  k1 : PySem.W.kitOne K (.ref D) (.ref A_BadWeb) = some b1
  k2 : PySem.W.kitOne K (.ref D) (.ref A_BadHands) = some b2
  k3 : PySem.W.kitOne K (.ref D) (.ref A_BadPlace) = some b3
  k4 : PySem.W.kitOne K (.ref D) (.ref A_BadCount) = some b4
  k5 : PySem.W.kitOne K (.ref D) (.ref A_NoStep) = some b5
  k6 : PySem.W.kitOne K (.ref D) (.ref A_NotEven) = some b6
  kV : PySem.W.kitOne K (.ref D) (.type "ValueError") = some true
  kE : PySem.W.kitOne K (.ref D) (.ref A_Endless) = some false
def wordsAll : List Str := ["web", "hands", "place", "count", "step", "even", "else"]
def wordsOf (bs : List Bool) : List Str := (wordsAll.zip bs).filterMap fun p => if p.2 then some p.1 else none
def Ew (K : PySem.W.Frag) (A_WalkError A_BadWeb A_BadHands A_BadPlace A_BadCount A_NoStep A_NotEven A_Endless : Addr) (Q : VK) : XK := fun cls d H' => ∃ (D : Addr) (b1 b2 b3 b4 b5 b6 : Bool) (B : Hp) (M : List (Addr × HO)), cls = .ref D ∧ d = none ∧ WordOf K A_WalkError A_BadWeb A_BadHands A_BadPlace A_BadCount A_NoStep A_NotEven A_Endless D b1 b2 b3 b4 b5 b6 ∧ Hs B M H' ∧
      ∀ p H'', Hs B ((p, .lst ((wordsOf [b1, b2, b3, b4, b5, b6, false]).map V.str)) :: M) H'' → Q (.ref p) H''
def Qw (Q : VK) : VK := fun _ H' => ∃ (B : Hp) (M : List (Addr × HO)), Hs B M H' ∧ ∀ p H'', Hs B ((p, .lst []) :: M) H'' → Q (.ref p) H''
def TTw (K : PySem.W.Frag) (A_WalkError A_BadWeb A_BadHands A_BadPlace A_BadCount A_NoStep A_NotEven A_Endless : Addr) : (XK → Hp → VK → Prop) → Hp → VK → Prop := fun tl H Q =>
  ∀ (E1 : XK) (Q1 : VK), (∀ cls d H', Ew K A_WalkError A_BadWeb A_BadHands A_BadPlace A_BadCount A_NoStep A_NotEven A_Endless Q cls d H' → E1 cls d H') → (∀ v H', Qw Q v H' → Q1 v H') → tl E1 H Q1
-- _law_word: 0 _law_deed, 1 _law_kept, 2 e, 3 _law_some, 4 _law_found, 5 _law_word_here, 6 _law_is_it
abbrev s_law_word : Stmt := top 24
theorem sc_law_word : FnScope ["_law_deed", "_law_kept", "e", "_law_some", "_law_found", "_law_word_here", "_law_is_it"] ["_law_deed"] (defScope s_law_word) := ⟨rfl, rfl, rfl, by decide +kernel, rfl, by decide +kernel, by decide +kernel⟩
theorem word_gives {X : Cx} {A_WalkError A_BadWeb A_BadHands A_BadPlace A_BadCount A_NoStep A_NotEven A_Endless : Addr} (T0 : Names X.mg) (T : ErrNs X.mg A_WalkError A_BadWeb A_BadHands A_BadPlace A_BadCount A_NoStep A_NotEven A_Endless) {q : Str} {g : Addr} {cdg : Value} :
    LamX.GivesTo X ["_law_deed", "_law_kept", "e", "_law_some", "_law_found", "_law_word_here", "_law_is_it"] "_law_word" (defScope s_law_word) g cdg (defBody s_law_word) "_law_deed" q (TTw X.K A_WalkError A_BadWeb A_BadHands A_BadPlace A_BadCount A_NoStep A_NotEven A_Endless) := by
  intro f c' s H Q tl act hc h
  have T_WalkError := T.m_WalkError
  have ACT : ∀ (W : WX) (pn : List (Addr × Obj)) (xe : Value → Shared → Prop) {p1 p2 p3 : Pos}, Takes ((cxOf C8.CX0 X.prog X.w X.K X.mg X.base ["_law_deed", "_law_kept", "e", "_law_some", "_law_found", "_law_word_here", "_law_is_it"] "_law_word" (defScope s_law_word) g cdg X.A X.stack s H C8.E0).nox.tr pn xe) W →
      PSs ((cxOf C8.CX0 X.prog X.w X.K X.mg X.base ["_law_deed", "_law_kept", "e", "_law_some", "_law_found", "_law_word_here", "_law_is_it"] "_law_word" (defScope s_law_word) g cdg X.A X.stack s H C8.E0).nox.tr pn xe) [.Expr (.Call (.Name "_law_deed" p1) [] [] p2) p3]
        (fun D σ H => ∃ Ech : XK, (∀ cls d σ' H', Ech cls d H' → σ'.length = 7 → W cls d σ' H') ∧ σ[0]? = some (some (.ref f)) ∧ H c' = some (LamX.CodeO c' q) ∧ tl Ech H fun _ H1 => D.nx σ H1) := by
    intro W pn xe p1 p2 p3 tk
    constructor
    intro pl st sl H' En I z
    obtain ⟨Ex, imp, z⟩ := z
    exact (pss_one (ps_expr (pos := p3) (act (fun c d σ H => σ.length = 7 → W c d σ H) pn xe Ex p1 p2 (takes_len tk) imp))).run pl st sl H' En I z
  refine ⟨_, (pss_cons (ps_set (i := 1) sc_law_word.nd rfl (Or.inl rfl) pe_non) (pss_cons (ps_try_asT (i := 2) rfl rfl rfl sc_law_word.nd rfl rfl ⟨rfl, by decide, .inl T_WalkError⟩ L2.takes0 (fun W pn xe tk _ => ACT W pn xe tk) (fun a pn => (pss_one (ps_set (i := 1) sc_law_word.nd rfl (Or.inl rfl) (pv 2))))) (pss_cons (ps_if (pt_cmpR op_isNX (pv 1) pe_non (nomark _)) (pss_one (ps_ret (pe_lst pa_nil))) pss_nil) (pss_cons (ps_set (i := 3) sc_law_word.nd rfl (Or.inl rfl) (pe_lst (pa_cons (pe_tup (pa_cons pe_str (pa_cons (pe_callB (k_isK X.K) rfl T.n_isinstance (by decide +kernel) (pa_cons (pv 1) (pa_cons (pe_glob (v := .ref A_BadWeb) rfl T.m_BadWeb rfl) pa_nil))) pa_nil))) (pa_cons (pe_tup (pa_cons pe_str (pa_cons (pe_callB (k_isK X.K) rfl T.n_isinstance (by decide +kernel) (pa_cons (pv 1) (pa_cons (pe_glob (v := .ref A_BadHands) rfl T.m_BadHands rfl) pa_nil))) pa_nil))) pa_nil)))) (pss_cons (ps_set (i := 3) sc_law_word.nd rfl (Or.inl rfl) (pe_op op_cat (pv 3) (pe_lst (pa_cons (pe_tup (pa_cons pe_str (pa_cons (pe_callB (k_isK X.K) rfl T.n_isinstance (by decide +kernel) (pa_cons (pv 1) (pa_cons (pe_glob (v := .ref A_BadPlace) rfl T.m_BadPlace rfl) pa_nil))) pa_nil))) (pa_cons (pe_tup (pa_cons pe_str (pa_cons (pe_callB (k_isK X.K) rfl T.n_isinstance (by decide +kernel) (pa_cons (pv 1) (pa_cons (pe_glob (v := .ref A_BadCount) rfl T.m_BadCount rfl) pa_nil))) pa_nil))) pa_nil))))) (pss_cons (ps_set (i := 3) sc_law_word.nd rfl (Or.inl rfl) (pe_op op_cat (pv 3) (pe_lst (pa_cons (pe_tup (pa_cons pe_str (pa_cons (pe_callB (k_isK X.K) rfl T.n_isinstance (by decide +kernel) (pa_cons (pv 1) (pa_cons (pe_glob (v := .ref A_NoStep) rfl T.m_NoStep rfl) pa_nil))) pa_nil))) (pa_cons (pe_tup (pa_cons pe_str (pa_cons (pe_callB (k_isK X.K) rfl T.n_isinstance (by decide +kernel) (pa_cons (pv 1) (pa_cons (pe_glob (v := .ref A_NotEven) rfl T.m_NotEven rfl) pa_nil))) pa_nil))) pa_nil))))) (pss_cons (ps_expr (pe_bmK X.K PySem.F.plainAttrs_list PySem.F.slot_list_append PySem.F.type_list_append mt_append (pv 3) (pa_cons (pe_tup (pa_cons pe_str (pa_cons (pe_not (pe_callB (k_isK X.K) rfl T.n_isinstance (by decide +kernel) (pa_cons (pv 1) (pa_cons (pe_bltn (v := .ty "ValueError") rfl T.n_ValueError (by decide +kernel) rfl) pa_nil)))) pa_nil))) pa_nil))) (pss_cons (ps_setLc (i := 4) (own := [("_law_word_here", 5), ("_law_is_it", 6)]) rfl sc_law_word.nd rfl rfl (sw_true rfl rfl rfl (by decide +kernel)) (pi_listK X.K (pv 3)) (blkOk_by (own := [("_law_word_here", 5), ("_law_is_it", 6)]) (N := ["_law_deed", "_law_kept", "e", "_law_some", "_law_found", "_law_word_here", "_law_is_it"]) (sc := defScope s_law_word) (by decide +kernel)) (fun _ _ _ _ _ => (pg_tupK (n := 2) X.K rfl (pgs_cons (pg_name (i := 5) sc_law_word.nd rfl (Or.inl rfl)) (pgs_cons (pg_name (i := 6) sc_law_word.nd rfl (Or.inl rfl)) pgs_nil)))) (fun _ _ _ _ _ => pts_one (pt_val (pv 6))) (fun _ _ _ _ _ => (pv 5))) (pss_one (ps_ret (pe_ifExp (pt_val (pe_callB (k_isK X.K) rfl T.n_isinstance (by decide +kernel) (pa_cons (pv 1) (pa_cons (pe_glob (v := .ref A_Endless) rfl T.m_Endless rfl) pa_nil)))) (pe_op op_cat (pv 4) (pe_lst (pa_cons pe_str (pa_cons (pe_xfKK X.K (pv 1)) pa_nil)))) (pv 4)))))))))))), ?_⟩
  walk_at "go"
  refine ⟨Ew X.K A_WalkError A_BadWeb A_BadHands A_BadPlace A_BadCount A_NoStep A_NotEven A_Endless Q, fun cls d σ' H' he hl => ?_, rfl, hc, h _ _ (fun _ _ _ z => z) fun v H' hq => ?_⟩
  · obtain ⟨D, b1, b2, b3, b4, b5, b6, B, M, rfl, rfl, W, S, hQ⟩ := he
    match σ', hl with
    | [x0, x1, x2, x3, x4, x5, x6], _ =>
    refine ⟨true, W.tk, (fun z => Bool.noConfusion z), fun _ a ha => ?_⟩
    have S0 := S.new ha (ExK (.ref D) none a)
    walk_at "go"
    refine iteN (by simp) ?_
    walk_at "go"
    obtain ⟨B1, e1, ha1, S1⟩ := S0.shut 0
    refine w_isK (S1.ex _ _ ha1) W.ec rel_ref W.k1 ?_
    walk_at "go"
    refine w_tup S1 (sz_le (by simp)) fun t1 H1 S1 => ?_
    walk_at "go"
    refine w_isK (S1.ex _ _ ha1) W.ec rel_ref W.k2 ?_
    walk_at "go"
    refine w_tup S1 (sz_le (by simp)) fun t2 H1 S1 => ?_
    walk_at "go"
    refine w_lst S1 (sz_le (by simp)) fun l1 H1 S1 => ?_
    walk_at "go"
    refine w_isK (S1.ex _ _ ha1) W.ec rel_ref W.k3 ?_
    walk_at "go"
    refine w_tup S1 (sz_le (by simp)) fun t3 H1 S1 => ?_
    walk_at "go"
    refine w_isK (S1.ex _ _ ha1) W.ec rel_ref W.k4 ?_
    walk_at "go"
    refine w_tup S1 (sz_le (by simp)) fun t4 H1 S1 => ?_
    walk_at "go"
    refine w_lst S1 (sz_le (by simp)) fun l2 H1 S1 => ?_
    refine w_cat S1 (S1.get 3) (S1.get 0) (sz_le (by simp)) fun l3 H1 S1 => ?_
    walk_at "go"
    refine w_isK (S1.ex _ _ ha1) W.ec rel_ref W.k5 ?_
    walk_at "go"
    refine w_tup S1 (sz_le (by simp)) fun t5 H1 S1 => ?_
    walk_at "go"
    refine w_isK (S1.ex _ _ ha1) W.ec rel_ref W.k6 ?_
    walk_at "go"
    refine w_tup S1 (sz_le (by simp)) fun t6 H1 S1 => ?_
    walk_at "go"
    refine w_lst S1 (sz_le (by simp)) fun l4 H1 S1 => ?_
    refine w_cat S1 (S1.get 3) (S1.get 0) (sz_le (by simp)) fun l5 H1 S1 => ?_
    walk_at "go"
    refine ⟨tyL (sqL_of (S1.get 0)), ?_⟩
    walk_at "go"
    refine w_isK (S1.ex _ _ ha1) W.ec rel_ty W.kV ?_
    walk_at "go"
    refine w_tup S1 (sz_le (by simp)) fun t7 H1 S1 => ?_
    walk_at "go"
    refine w_append S1 1 rfl (Nat.lt_of_lt_of_le (by decide : 6 < 100) (sz_le (by decide))) fun H1 S1 => ?_
    walk_at "go"
    obtain ⟨B2, e2, h7, S2⟩ := S1.shut 0
    obtain ⟨B3, e3, hl5, S3⟩ := S2.shut 0
    obtain ⟨B4, e4, h6, S4⟩ := (S3.drop 0).shut 0
    obtain ⟨B5, e5, h5, S5⟩ := S4.shut 0
    obtain ⟨B6, e6, h4, S6⟩ := ((S5.drop 0).drop 0).shut 0
    obtain ⟨B7, e7, h3, S7⟩ := S6.shut 0
    obtain ⟨B8, e8, h2, S8⟩ := (S7.drop 0).shut 0
    obtain ⟨B9, e9, h1, S9⟩ := S8.shut 0
    have hl9 := e9 _ _ (e8 _ _ (e7 _ _ (e6 _ _ (e5 _ _ (e4 _ _ hl5)))))
    have hx : ∀ (i : Nat) (x : V), ([V.ref t1, V.ref t2, V.ref t3, V.ref t4, V.ref t5, V.ref t6, V.ref t7] : List V)[i]? = some x → ∃ (t : Addr) (w : Str) (b : Bool), x = .ref t ∧ B9 t = some (.tup [.str w, .bl b]) ∧ (wordsAll.zip [b1, b2, b3, b4, b5, b6, false])[i]? = some (w, b) := by
      intro i x hi
      match i, hi with
      | 0, hi => cases hi; exact ⟨t1, _, _, rfl, h1, rfl⟩
      | 1, hi => cases hi; exact ⟨t2, _, _, rfl, e9 _ _ h2, rfl⟩
      | 2, hi => cases hi; exact ⟨t3, _, _, rfl, e9 _ _ (e8 _ _ h3), rfl⟩
      | 3, hi => cases hi; exact ⟨t4, _, _, rfl, e9 _ _ (e8 _ _ (e7 _ _ h4)), rfl⟩
      | 4, hi => cases hi; exact ⟨t5, _, _, rfl, e9 _ _ (e8 _ _ (e7 _ _ (e6 _ _ h5))), rfl⟩
      | 5, hi => cases hi; exact ⟨t6, _, _, rfl, e9 _ _ (e8 _ _ (e7 _ _ (e6 _ _ (e5 _ _ h6)))), rfl⟩
      | 6, hi => cases hi; exact ⟨t7, _, _, rfl, e9 _ _ (e8 _ _ (e7 _ _ (e6 _ _ (e5 _ _ (e4 _ _ (e3 _ _ h7)))))), rfl⟩
      | n + 7, hi => simp at hi
    refine w_iLE (sqL_of (S9.ex _ _ hl9)) ?_
    refine lc_L S9 hl9 (fun i B' acc => B' = B9 ∧ acc = (((wordsAll.zip [b1, b2, b3, b4, b5, b6, false]).take i).filterMap fun p => if p.2 then some p.1 else none).map V.str) ⟨rfl, rfl⟩ ?_ ?_
    · rintro i x E B' acc H' hi hli e S' ⟨rfl, rfl⟩
      obtain ⟨t, w, b, rfl, ht, hp⟩ := hx i x hi
      have hil : i < 7 := (List.getElem?_eq_some_iff.mp hi).1
      refine w_gtup (sqT_of (S'.ex _ _ ht)) rfl ?_
      walk_at "go"
      refine ⟨rfl, ?_⟩
      walk_at "go"
      cases b with
      | true =>
        refine iteT ?_
        walk_at "go"
        refine lcp S' (Same.refl _) hli (by omega) ⟨rfl, ?_⟩
        rw [List.take_add_one, hp, List.filterMap_append, List.map_append]; rfl
      | false =>
        refine iteF ?_
        refine lcn S' (Same.refl _) hli ⟨rfl, ?_⟩
        rw [List.take_add_one, hp, List.filterMap_append, List.map_append]; simp
    · rintro E B' acc H' e S' hli ⟨rfl, rfl⟩
      walk_at "go"
      have ha9 := e9 _ _ (e8 _ _ (e7 _ _ (e6 _ _ (e5 _ _ (e4 _ _ (e3 _ _ (e2 _ _ ha1)))))))
      refine w_isK (S'.ex _ _ ha9) W.ec rel_ref W.kE ?_
      walk_at "go"
      refine iteF ?_
      walk_at "go"
      exact hQ _ _ (S'.less (e1.trans (e2.trans (e3.trans (e4.trans (e5.trans (e6.trans (e7.trans (e8.trans e9))))))))) 
  · obtain ⟨B, M, S, hQ⟩ := hq
    walk_at "go"
    refine iteP rfl ?_
    walk_at "go"
    exact w_lst S (sz_le (by simp)) fun p H2 S2 => hQ _ _ S2
/-! ### the law's word of a lambda -/
theorem pe_word {X : Cx} {T : List (Addr × Str)} {A_WalkError A_BadWeb A_BadHands A_BadPlace A_BadCount A_NoStep A_NotEven A_Endless c P : Addr} {k : Nat} {params : Arguments} {body : Expr} {scope : Scope} {t : XK → TE} {p lpos pos : Pos} (G : Glo X.K X.mg "_law_word" s_law_word) (T0 : Names X.mg) (TE : ErrNs X.mg A_WalkError A_BadWeb A_BadHands A_BadPlace A_BadCount A_NoStep A_NotEven A_Endless)
    (hg : Gl X "_law_word") (TB : LamX.TabB X.base X.mg c P) (hcode : X.env.code = .ref c) (hmT : (P, X.env.qual ++ "<lambda>") ∈ T) (hu : ∀ p ∈ T, p.1 = P → p.2 = X.env.qual ++ "<lambda>") (hr : Room (k + 2) X.A) (L : LamX.LamS X.env.scope scope) (hdef : defaultsOf params X.env = ([], []))
    (nobind : ∀ q cl pm cv ctv, bindArgs (PySem.W.kla_fn "<lambda>" q params body scope cl pm cv ctv) ⟨[], []⟩ = pure [])
    (hbody : ∀ (A : Around) (outer : List Env) (s : Shared) (H : Hp) (E : XK) (f c' : Addr), Room k (A.deeper (LamX.lamEnv X scope s.heap.objs.size f c')) → PE (LamX.lamCx X A outer s H E scope f c') body (t E)) :
    PE X (.Call (.Name "_law_word" p) [.Lambda params body scope lpos] [] pos) (LamX.tLam T (TTw X.K A_WalkError A_BadWeb A_BadHands A_BadPlace A_BadCount A_NoStep A_NotEven A_Endless) t) := by
  obtain ⟨g, fd, h1, F⟩ := G.ex
  obtain ⟨oc, od, kV, doc, pm, an, cdv, ct, osl, rfl, lk, hcd⟩ := id F.ex
  exact LamX.pe_lamcall (c := c) (P := P) hg h1 F.kp lk hcd (F.binds (fun _ _ _ _ _ _ us hl => match us, hl with | [_], _ => rfl)) sc_law_word rfl (.inl rfl) (word_gives T0 TE) TB hcode hmT hu hr L hdef nobind hbody

/-! ### data, where the tables of code objects may have grown -/
section
variable {H H' : Hp} {a : Addr} {v : V} {T : String} {b : Bool} {m : Int} {rows : List (List Int)}
theorem TyH.monoN (e : LamX.ExtN H H') (t : TyH H v T) : TyH H' v T := by
  cases t with
  | non => exact .non
  | bl b => exact .bl b
  | int i => exact .int i
  | str x => exact .str x
  | lst h => exact .lst (e _ _ h fun _ z => nomatch z)
  | tup h => exact .tup (e _ _ h fun _ z => nomatch z)
  | dK h => exact .dK (e _ _ h fun _ z => nomatch z)
theorem PlD.monoN (e : LamX.ExtN H H') (h : PlD H m v b) : PlD H' m v b := by
  cases h with
  | int i => exact .int i
  | oth t h => exact .oth (t.monoN e) h
theorem RwD.monoN (e : LamX.ExtN H H') (h : RwD H m v b) : RwD H' m v b := by
  cases h with
  | lst h t => exact .lst (e _ _ h fun _ z => nomatch z) (t.imp fun _ _ => PlD.monoN e)
  | oth t h => exact .oth (t.monoN e) h
theorem WbD.monoN (e : LamX.ExtN H H') (h : WbD H v b) : WbD H' v b := by
  cases h with
  | lst h t => exact .lst (e _ _ h fun _ z => nomatch z) (t.imp fun _ _ => RwD.monoN e)
  | oth t h => exact .oth (t.monoN e) h
theorem LR.monoN (e : LamX.ExtN H H') : ∀ {as : List Addr} {rows : List (List Int)}, LR H as rows → LR H' as rows
  | _, _, .nil => .nil
  | _, _, .cons h t => .cons (e _ _ h fun _ z => nomatch z) (LR.monoN e t)
theorem LL.monoN (e : LamX.ExtN H H') (h : LL H a rows) : LL H' a rows := by
  obtain ⟨as, h1, h2⟩ := h
  exact ⟨as, e _ _ h1 (fun _ z => nomatch z), h2.monoN e⟩
theorem WebAt.monoN {C : Addr} (e : LamX.ExtN H H') (h : WebAt C H a rows) : WebAt C H' a rows := by
  obtain ⟨dx, t, h1, ts, h2, h3⟩ := h.ex
  have keep : ∀ {b : Addr} {ys : List V}, FT H b ys → FT H' b ys := fun {b ys} ⟨ob, c1, c2, c3⟩ => ⟨ob, c1, c2, e _ _ c3 fun _ z => nomatch z⟩
  exact ⟨dx, t, e _ _ h1 (fun _ z => nomatch z), ts, keep h2, Paired.mapP h3 fun _ _ z => keep z⟩
theorem sql_up {K : PySem.W.Frag} {xs : List V} (h : SqL K H a xs) (e : Same H H') : SqL K H' a xs := by
  rcases h with (h | ⟨o, h⟩) | h
  · exact .inl (.inl (e _ _ h))
  · exact .inl (.inr ⟨o, e _ _ h⟩)
  · exact .inr h
theorem w_lam {T : List (Addr × Str)} {Pt : Addr} {q : Str} {TT : (XK → Hp → VK → Prop) → Hp → VK → Prop} {t : XK → TE} {σ : L2.St} {Q : VK} (hq : T = [(Pt, q)]) (hT : LamX.TabS H Pt q) (k : ∀ H1, LamX.ExtN H H1 → LamX.TabS H1 Pt q → TT (fun E H' Q' => t E σ H' Q') H1 Q) : LamX.tLam T TT t σ H Q := by
  subst hq
  exact ⟨fun p hp => by rw [List.mem_singleton.mp hp]; exact hT, fun H1 e h1 => k H1 e (h1 _ (List.mem_singleton.mpr rfl))⟩
/-- texts -/
theorem dp_strs {K : PySem.W.Frag} {ws : List Str} (h : H a = some (.lst (ws.map V.str))) : Dp K H (.ref a) (.list (ws.map .str)) := by
  have all : ∀ ws : List Str, DpAll K H (ws.map V.str) (ws.map .str) := fun ws => by
    induction ws with
    | nil => exact .nil
    | cons w r ih => exact .cons (.str w) ih
  exact .lst (sqL_of h) (all ws)
theorem w_neSame {K : PySem.W.Frag} {p q : Addr} {Q : VK} {d : PyData} {n : Nat} (h : Dp K H (.ref p) d) (h2 : Dp K H (.ref q) d) (s : Shp n d) (hn : n ≤ 64) (k : Q (.bl false) H) : rNeD K (.ref p) (.ref q) H Q :=
  w_neD h h2 (s.shaped hn) (s.shaped hn) (by rw [SeqAt.eqv_refl d s.lay]; exact k)
end
theorem cutV_ints (ns : List Int) (lo hi : Option Int) : ∃ zs : List Int, cutV (ns.map V.int) lo hi = zs.map V.int ∧ zs.length ≤ ns.length := by
  unfold cutV
  refine ⟨(ns.drop (HT.sIx (ns.map V.int).length 0 lo)).take (HT.sIx (ns.map V.int).length (ns.map V.int).length hi - HT.sIx (ns.map V.int).length 0 lo), ?_, ?_⟩
  · rw [List.map_take, List.map_drop]
  · rw [List.length_take, List.length_drop]
    omega
end Rw

namespace Rw
open PySem PySem.Spec PyProof.Rows L2
local macro_rules | `(tactic| walk_at "go1") => `(tactic| first
  | (with_reducible refine w_seq ?_)
  | (with_reducible refine w_asg ?_)
  | (with_reducible refine w_name ?_)
  | (with_reducible refine w_drop ?_)
  | (with_reducible refine w_ret ?_)
  | (with_reducible refine w_next ?_)
  | (with_reducible refine w_op ?_)
  | (with_reducible refine w_un ?_)
  | (with_reducible refine w_c ?_)
  | (with_reducible refine w_var (by with_unfolding_all rfl) ?_)
  | (with_reducible refine w_rI0 ?_)
  | (with_reducible refine w_rU ?_)
  | ((with_reducible refine w_mod ?_ ?_); (show (0 : Int) < _); omega)
  | ((with_reducible refine w_div ?_ ?_); exact And.intro (by omega) (by omega))
  | ((with_reducible refine w_mul ?_ ?_); (first | exact Or.inl (And.intro (by omega) (by omega)) | exact Or.inr (And.intro (by omega) (by omega))))
  | (with_reducible refine w_ifS ?_)
  | (with_reducible refine w_if ?_)
  | (with_reducible refine w_test ?_)
  | (with_reducible refine w_B ?_)
  | (with_reducible refine w_bl ?_)
  | (with_reducible refine w_not ?_)
  | (with_reducible refine w_and ?_)
  | (with_reducible refine w_or ?_)
  | (with_reducible refine w_cons ?_)
  | (with_reducible refine w_nil ?_)
  | (with_reducible refine w_call ?_)
  | (with_reducible refine w_cb ?_)
  | (with_reducible refine w_bm0 ?_)
  | (with_reducible refine w_bm ?_)
  | (with_reducible refine w_tlst ?_)
  | (with_reducible refine w_ttup ?_)
  | (with_reducible refine w_sub ?_)
  | (with_reducible refine w_for ?_)
  | (with_reducible refine w_rng1 ?_)
  | ((with_reducible refine w_rngE ?_ ?_ ?_); omega; omega)
  | (with_reducible refine w_iL ?_)
  | (with_reducible refine w_iT ?_)
  | (with_reducible refine w_iE ?_)
  | (with_reducible refine w_iZ ?_)
  | (with_reducible refine w_lc ?_)
  | (with_reducible refine w_yes ?_)
  | (with_reducible refine w_gcons ?_)
  | (with_reducible refine w_gnil ?_)
  | (with_reducible refine w_max2 ?_)
  | (with_reducible refine w_sl ?_)
  | (with_reducible refine w_part ?_)
  | (with_reducible refine w_partI ?_)
  | (with_reducible refine w_nopart ?_)
  | (with_reducible refine w_isT ?_)
  | (with_reducible refine w_notT ?_)
  | (with_reducible refine w_isB ?_)
  | (with_reducible refine w_notB ?_)
  | (with_reducible refine w_isN ?_)
  | (with_reducible refine w_notN ?_)
  | (with_reducible refine w_fld ?_)
  | (with_reducible refine w_ftm ?_)
  | (with_reducible refine w_lrg ?_)
  | (with_reducible refine w_rg1 ?_)
  | (with_reducible refine w_rg1E ?_)
  | (with_reducible refine w_tru ?_)
  | (with_reducible refine w_truB ?_)
  | (with_reducible refine w_truI ?_)
  | (with_reducible refine w_notT' ?_)
  | (with_reducible refine w_andT ?_)
  | (with_reducible refine w_orT ?_)
  | (with_reducible refine w_andV ?_)
  | (with_reducible refine w_orV ?_)
  | (with_reducible refine w_andE ?_)
  | (with_reducible refine w_orE ?_)
  | (with_reducible refine w_notV ?_)
  | (with_reducible refine w_notE ?_)
  | (with_reducible refine w_chain ?_)
  | (with_reducible refine w_chainI ?_)
  | (with_reducible refine w_meth ?_)
  | (with_reducible refine w_make ?_)
  | (with_reducible refine w_sfld ?_))
local macro_rules | `(tactic| walk_at "go") => `(tactic| repeat walk_at "go1")

theorem rows_valid (c k : Int) : Valid (rows c k) := by
  have n0 := mixed_nn c k
  have hm : 1 ≤ manyOf c k ∧ manyOf c k ≤ 8 ∧ ((manyOf c k : Nat) : Int) = 1 + mixed c k % 8 := by
    unfold manyOf
    omega
  have hl : (rows c k).length = manyOf c k := by
    unfold rows
    dsimp only
    split <;> simp
  have hrow : ∀ i, i < manyOf c k → (rowAt c k (1 + mixed c k % 8) i).length ≤ 3 ∧ ∀ x ∈ rowAt c k (1 + mixed c k % 8) i, 0 ≤ x ∧ x < ((manyOf c k : Nat) : Int) := by
    intro i hi
    refine ⟨?_, fun x hx => ?_⟩
    · unfold rowAt
      rw [List.length_map, List.length_range]
      have := cnt_le (mixed c (k + 1 + i) % 5)
      omega
    · unfold rowAt at hx
      obtain ⟨j, _, rfl⟩ := List.mem_map.mp hx
      unfold farAt
      rw [hm.2.2]
      split
      · exact ⟨Int.emod_nonneg _ (by omega), Int.emod_lt_of_pos _ (by omega)⟩
      · exact ⟨Int.emod_nonneg _ (by omega), Int.emod_lt_of_pos _ (by omega)⟩
  refine ⟨by omega, by omega, fun r hr => ?_⟩
  rw [hl]
  unfold rows at hr
  dsimp only at hr
  have base : ∀ r ∈ (List.range (manyOf c k)).map (rowAt c k (1 + mixed c k % 8)), r.length ≤ 3 ∧ ∀ x ∈ r, 0 ≤ x ∧ x < ((manyOf c k : Nat) : Int) := by
    intro r hr
    obtain ⟨i, hi, rfl⟩ := List.mem_map.mp hr
    exact hrow i (List.mem_range.mp hi)
  split at hr
  · rcases List.mem_or_eq_of_mem_set hr with q | q
    · exact base r q
    · subst q
      simp
  · exact base r hr

/-! ### steps that stand still at once -/
section
variable {K : PySem.W.Frag} {B H : Hp} {M : List (Addr × HO)} {p q : Addr} {xs ys : List V} {Q : VK} {σ : L2.St}
theorem u_lst (S : Hs B M H) (hl : xs.length ≤ sizeLine) (k : ∀ p B' H', Same B B' → B p = none → B' p = some (.lst xs) → Hs B' M H' → Q (.ref p) H') : newL xs H Q := w_lst S hl fun p H' S' => by
  have h0 := S'.out 0
  obtain ⟨B', e, h, S2⟩ := S'.shut 0
  exact k p B' H' e h0 h S2
theorem u_tup (S : Hs B M H) (hl : xs.length ≤ sizeLine) (k : ∀ p B' H', Same B B' → B' p = some (.tup xs) → Hs B' M H' → Q (.ref p) H') : newT xs H Q := w_tup S hl fun p H' S' => by
  obtain ⟨B', e, h, S2⟩ := S'.shut 0
  exact k p B' H' e h S2
theorem u_cat (S : Hs B M H) (h : B p = some (.lst xs)) (h2 : B q = some (.lst ys)) (hl : xs.length + ys.length ≤ sizeLine) (k : ∀ z B' H', Same B B' → B' z = some (.lst (xs ++ ys)) → Hs B' M H' → Q (.ref z) H') : rCat (.ref p) (.ref q) H Q := w_cat S (S.ex _ _ h) (S.ex _ _ h2) hl fun p H' S' => by
  obtain ⟨B', e, h, S2⟩ := S'.shut 0
  exact k p B' H' e h S2
theorem u_rep {n : Int} (S : Hs B M H) (h : B p = some (.lst xs)) (h0 : -(2 ^ 63) ≤ n) (h1 : n < 2 ^ 63) (hl : xs.length * n.toNat ≤ sizeLine) (k : ∀ z B' H', Same B B' → B' z = some (.lst (List.replicate n.toNat xs).flatten) → Hs B' M H' → Q (.ref z) H') : rRep (.ref p) (.int n) H Q := w_rep S (S.ex _ _ h) h0 h1 hl fun p H' S' => by
  obtain ⟨B', e, h, S2⟩ := S'.shut 0
  exact k p B' H' e h S2
theorem u_slice {lo hi : Option Int} (S : Hs B M H) (h : B p = some (.lst xs)) (k : ∀ z B' H', Same B B' → B' z = some (.lst (cutV xs lo hi)) → Hs B' M H' → Q (.ref z) H') : rSlL K (.ref p) lo hi H Q := w_slice S (sqL_of (S.ex _ _ h)) fun p H' S' => by
  obtain ⟨B', e, h, S2⟩ := S'.shut 0
  exact k p B' H' e h S2
theorem u_tupL (S : Hs B M H) (h : B p = some (.lst xs)) (k : ∀ q B' H', Same B B' → B' q = some (.tup xs) → Hs B' M H' → Q (.ref q) H') : rTupX K [.ref p] H Q := w_tupL S (sqL_of (S.ex _ _ h)) fun p H' S' => by
  obtain ⟨B', e, h, S2⟩ := S'.shut 0
  exact k p B' H' e h S2
theorem u_dict (S : Hs B M H) (k : ∀ q B' H', Same B B' → B' q = some (.dK []) → Hs B' M H' → Q (.ref q) H') : tDNewK σ H Q := fun d hd => by
  have S' := S.new hd (.dK [])
  obtain ⟨B', e, h, S2⟩ := S'.shut 0
  exact k d B' _ e h S2
end
theorem cut_to {xs : List V} (j : Nat) : cutV xs none (some (j : Int)) = xs.take j := by
  unfold cutV
  rw [HT.sIx_none, HT.sIx_nat, List.drop_zero, Nat.sub_zero]
  by_cases h : j ≤ xs.length
  · rw [Nat.min_eq_left h]
  · rw [Nat.min_eq_right (by omega), List.take_of_length_le (by omega), List.take_of_length_le (by omega)]
theorem cut_from {xs : List V} (j : Nat) : cutV xs (some (j : Int)) none = xs.drop j := by
  unfold cutV
  rw [HT.sIx_none, HT.sIx_nat]
  by_cases h : j ≤ xs.length
  · rw [Nat.min_eq_left h, List.take_of_length_le (by rw [List.length_drop]; omega)]
  · rw [Nat.min_eq_right (by omega), List.take_of_length_le (by rw [List.length_drop]; omega), List.drop_of_length_le (by omega), List.drop_of_length_le (by omega)]
section
variable {B B' H : Hp} {M : List (Addr × HO)} {xs ys : List V} {Q : VK} {σ : L2.St} {m : Int} {i : Int} {x v : V} {ah be a : Addr}
theorem u_mid (S : Hs B M H) (hah : B ah = some (.lst xs)) (hbe : B be = some (.lst ys)) (hl : xs.length + 1 + ys.length ≤ 100) (hσ : σ[5]? = some (some (.ref be)))
    (k : ∀ z B' H', Same B B' → B' z = some (.lst (xs ++ [x] ++ ys)) → Hs B' M H' → Q (.ref z) H') : newL [x] H fun q H1 => rCat (.ref ah) q H1 fun z H2 => tVar 5 σ H2 fun y H3 => rCat z y H3 Q := by
  refine u_lst S (by rw [sizeLine_eq]; simp) fun q B1 H1 e1 _ h1 S => ?_
  refine u_cat S (e1 _ _ hah) h1 (by rw [sizeLine_eq]; simp; omega) fun z B2 H2 e2 h2 S => ?_
  refine ⟨.ref be, hσ, ?_⟩
  refine u_cat S h2 (e2 _ _ (e1 _ _ hbe)) (by rw [sizeLine_eq]; simp; omega) fun z B3 H3 e3 h3 S => ?_
  exact k z B3 H3 ((e1.trans e2).trans e3) h3 S
theorem pl_no (h : ¬ (0 ≤ i ∧ i < m)) : PlD B m (.int i) false := by
  have z := PlD.int (H := B) (m := m) i
  rwa [decide_eq_false h] at z
/-- none of them is a web -/
def AllW (B : Hp) (vs : List V) : Prop := ∀ v ∈ vs, WbD B v false
theorem AllW.mono {vs : List V} (e : Same B B') (h : AllW B vs) : AllW B' vs := fun v hv => (h v hv).mono e
theorem AllW.cons {vs : List V} (h : AllW B vs) (hv : WbD B v false) : AllW B (v :: vs) := fun u hu => by
  rcases List.mem_cons.mp hu with rfl | hu
  · exact hv
  · exact h u hu
theorem AllD.ex {R : V → Bool → Prop} : ∀ {vs : List V}, (∀ v ∈ vs, ∃ b, R v b) → ∃ bs, AllD R vs bs
  | [], _ => ⟨[], .nil⟩
  | v :: vs, h => by
    obtain ⟨b, hb⟩ := h v List.mem_cons_self
    obtain ⟨bs, hbs⟩ := AllD.ex fun u hu => h u (List.mem_cons_of_mem _ hu)
    exact ⟨b :: bs, .cons hb hbs⟩
theorem AllD.app {R : V → Bool → Prop} {vs us : List V} {bs cs : List Bool} (h : AllD R vs bs) (g : AllD R us cs) : AllD R (vs ++ us) (bs ++ cs) := by
  induction h with
  | nil => exact g
  | cons h _ ih => exact .cons h ih
/-- things one of which is none -/
theorem AllD.bad {R : V → Bool → Prop} {vs us : List V} (h : ∀ v ∈ vs, ∃ b, R v b) (hx : R x false) (g : ∀ v ∈ us, ∃ b, R v b) : ∃ bs, AllD R (vs ++ [x] ++ us) bs ∧ bs.all id = false := by
  obtain ⟨bs, hb⟩ := AllD.ex h
  obtain ⟨cs, hc⟩ := AllD.ex g
  refine ⟨bs ++ [false] ++ cs, (hb.app (.cons hx .nil)).app hc, ?_⟩
  simp
theorem rw_ints {rs : List Int} (h : B a = some (.lst (rs.map V.int))) : ∃ b, RwD B m (.ref a) b := by
  obtain ⟨bs, hb⟩ := AllD.ex (R := PlD B m) (vs := rs.map V.int) fun v hv => by
    obtain ⟨i, _, rfl⟩ := List.mem_map.mp hv
    exact ⟨_, .int i⟩
  exact ⟨_, .lst h hb⟩
theorem LR.mem {as : List Addr} {rows : List (List Int)} (h : LR B as rows) : ∀ a ∈ as, ∃ r : List Int, B a = some (.lst (r.map V.int)) := by
  intro a ha
  obtain ⟨i, hi, e⟩ := List.mem_iff_getElem.mp ha
  have hl := h.length
  obtain ⟨a', h1, h2⟩ := h.get (i := i) (r := rows[i]'(by omega)) (List.getElem?_eq_getElem (by omega))
  rw [List.getElem?_eq_getElem hi, e] at h1
  cases h1
  exact ⟨_, h2⟩
/-- a list of rows with one thing that is no row -/
theorem wb_mid {as bs : List Addr} (h : B a = some (.lst (as.map V.ref ++ [x] ++ bs.map V.ref))) (hx : ∀ m, m = ((as.length + 1 + bs.length : Nat) : Int) → RwD B m x false) (h1 : ∀ a ∈ as, ∃ r : List Int, B a = some (.lst (r.map V.int))) (h2 : ∀ a ∈ bs, ∃ r : List Int, B a = some (.lst (r.map V.int))) : WbD B (.ref a) false := by
  have ex : ∀ {cs : List Addr} {m : Int}, (∀ a ∈ cs, ∃ r : List Int, B a = some (.lst (r.map V.int))) → ∀ v ∈ cs.map V.ref, ∃ b, RwD B m v b := fun {cs m} hh v hv => by
    obtain ⟨c, hc, rfl⟩ := List.mem_map.mp hv
    obtain ⟨r, hr⟩ := hh c hc
    exact rw_ints hr
  have el : (as.map V.ref ++ [x] ++ bs.map V.ref).length = as.length + 1 + bs.length := by simp; omega
  obtain ⟨cs, hc, hf⟩ := AllD.bad (R := RwD B ((as.map V.ref ++ [x] ++ bs.map V.ref).length : Nat)) (ex h1) (hx _ (by rw [el])) (ex h2)
  have z := WbD.lst h hc
  rwa [hf, Bool.and_false] at z
theorem rw_bad {us vs : List V} (h : B a = some (.lst (us ++ [x] ++ vs))) (hx : PlD B m x false) (h1 : ∀ v ∈ us, ∃ b, PlD B m v b) (h2 : ∀ v ∈ vs, ∃ b, PlD B m v b) : RwD B m (.ref a) false := by
  obtain ⟨cs, hc, hf⟩ := AllD.bad h1 hx h2
  have z := RwD.lst h hc
  rwa [hf, Bool.and_false] at z
theorem pl_ints {rs : List Int} : ∀ v ∈ rs.map V.int, ∃ b, PlD B m v b := fun v hv => by
  obtain ⟨i, _, rfl⟩ := List.mem_map.mp hv
  exact ⟨_, .int i⟩
end
theorem sz_le' {n : Nat} (h : n ≤ 100) : n ≤ sizeLine := by rw [sizeLine_eq]; omega
theorem w_par2 {i j : Nat} {ta : TA} {D : Ends} {σ : L2.St} {H : Hp} (k : ta σ H fun vs H1 => ∃ v w, vs = [v, w] ∧ D.nx ((σ.set i (some v)).set j (some w)) H1) : tPar i j ta D σ H := k
def spSpoilt : Sp := fun vs H Q _ => ∃ (B : Hp) (M : List (Addr × HO)) (a : Addr) (rows : List (List Int)) (n : Int), vs = [.ref a, .int n] ∧ Hs B M H ∧ LL B a rows ∧ Valid rows ∧ 0 ≤ n ∧ n < 1000003 ∧
  ∀ (v : V) (B' H' : Hp), Same B B' → Hs B' M H' → WbD B' v false → Q v H'
-- _law_spoilt: 0 _law_rows_here, 1 _law_number, 2 _law_at, 3 _law_row, 4 _law_ahead, 5 _law_behind, 6 _law_odd, 7 _law_some
abbrev s_law_spoilt : Stmt := top 25
theorem sc_law_spoilt : FnScope ["_law_rows_here", "_law_number", "_law_at", "_law_row", "_law_ahead", "_law_behind", "_law_odd", "_law_some"] ["_law_rows_here", "_law_number"] (defScope s_law_spoilt) := ⟨rfl, rfl, rfl, by decide +kernel, rfl, by decide +kernel, by decide +kernel⟩
section
variable {P : Program} {w : World} {K : PySem.W.Frag} {mg : Str → Option Value} {base : Heap}
theorem ok_spoilt (T : Names mg) (G : Glo K mg "_law_spoilt" s_law_spoilt) : Cal P w K mg base "_law_spoilt" 1 ["_law_rows_here", "_law_number"] spSpoilt := by
  refine G.cal (k := 0) sc_law_spoilt (fun _ _ _ _ _ _ us hl => match us, hl with | [_, _], _ => rfl) (fun vs H Q E h => ?_) (fun f cdv A outer s H vs Q E hr h => ?_)
  · obtain ⟨B, M, a, rows, n, rfl, _⟩ := h; rfl
  obtain ⟨B0, M, a, rows, n, rfl, S, ⟨as, ha, hR⟩, hv, hn0, hn1, hQ⟩ := h
  have hal := hR.length
  have hpos := hv.pos
  have hle := hv.le
  refine ⟨_, (pss_cons (ps_set (i := 2) sc_law_spoilt.nd rfl (Or.inl rfl) (pe_op op_mod (pe_op op_fdiv (pv 1) pe_int) (pe_callB (k_len K) rfl T.n_len boot_len (pa_cons (pv 0) pa_nil)))) (pss_cons (ps_set (i := 3) sc_law_spoilt.nd rfl (Or.inl rfl) (pe_ix (k_ixL K) (pv 0) (pv 2) (fun _ _ => rfl))) (pss_cons (ps_par (i := 4) (j := 5) rfl sc_law_spoilt.nd rfl rfl (by decide) rfl rfl (pa_cons (pe_slice (k_slL K) (pv 0) po_none (po_some (pv 2))) (pa_cons (pe_slice (k_slL K) (pv 0) (po_some (pe_op op_add (pv 2) pe_int)) po_none) pa_nil)) (by rfl)) (pss_cons (ps_set (i := 6) sc_law_spoilt.nd rfl (Or.inl rfl) (pe_ix (k_ixL K) (pe_lst (pa_cons pe_non (pa_cons pe_bl (pa_cons pe_str (pa_cons (pe_lst (pa_cons pe_int pa_nil)) (pa_cons (pe_un un_neg pe_int) (pa_cons (pe_callB (k_len K) rfl T.n_len boot_len (pa_cons (pv 0) pa_nil)) (pa_cons (pe_op op_add (pe_callB (k_len K) rfl T.n_len boot_len (pa_cons (pv 0) pa_nil)) (pv 1)) (pa_cons (pe_tup (pa_cons pe_int pa_nil)) pa_nil))))))))) (pe_op op_mod (pe_op op_fdiv (pv 1) pe_int) pe_int) (fun _ _ => rfl))) (pss_cons (ps_set (i := 7) sc_law_spoilt.nd rfl (Or.inl rfl) (pe_lst (pa_cons pe_non (pa_cons pe_int (pa_cons pe_str (pa_cons (pe_callTy (k_tuple K) rfl T.n_tuple (by decide +kernel) (pa_cons (pv 0) pa_nil)) (pa_cons pe_dnewK (pa_cons (pe_lst pa_nil) (pa_cons (pe_slice (k_slL K) (pe_op op_rep (pv 0) pe_int) po_none (po_some pe_int)) (pa_cons (pe_op op_cat (pe_op op_cat (pv 4) (pe_lst (pa_cons pe_non pa_nil))) (pv 5)) (pa_cons (pe_op op_cat (pe_op op_cat (pv 4) (pe_lst (pa_cons (pe_callTy (k_tuple K) rfl T.n_tuple (by decide +kernel) (pa_cons (pv 3) pa_nil)) pa_nil))) (pv 5)) pa_nil))))))))))) (pss_cons (ps_set (i := 7) sc_law_spoilt.nd rfl (Or.inl rfl) (pe_op op_cat (pv 7) (pe_lst (pa_cons (pe_op op_cat (pe_op op_cat (pv 4) (pe_lst (pa_cons (pe_slice (k_slL K) (pe_op op_cat (pv 3) (pe_op op_rep (pe_lst (pa_cons pe_int pa_nil)) pe_int)) po_none (po_some pe_int)) pa_nil))) (pv 5)) (pa_cons (pe_op op_cat (pe_op op_cat (pv 4) (pe_lst (pa_cons (pe_op op_cat (pe_lst (pa_cons (pv 6) pa_nil)) (pe_slice (k_slL K) (pv 3) (po_some pe_int) po_none)) pa_nil))) (pv 5)) (pa_cons (pe_op op_cat (pe_op op_cat (pv 4) (pe_lst (pa_cons pe_int pa_nil))) (pv 5)) pa_nil)))))) (pss_cons (ps_set (i := 7) sc_law_spoilt.nd rfl (Or.inl rfl) (pe_op op_cat (pv 7) (pe_lst (pa_cons (pe_op op_cat (pe_op op_cat (pv 4) (pe_lst (pa_cons (pe_op op_cat (pe_slice (k_slL K) (pv 3) po_none (po_some pe_int)) (pe_lst (pa_cons (pv 6) pa_nil))) pa_nil))) (pv 5)) (pa_cons pe_bl (pa_cons (pe_lst (pa_cons (pv 0) pa_nil)) (pa_cons (pe_op op_cat (pe_op op_cat (pv 4) (pe_lst (pa_cons pe_str pa_nil))) (pv 5)) (pa_cons (pe_op op_cat (pe_op op_cat (pv 4) (pe_lst (pa_cons pe_dnewK pa_nil))) (pv 5)) pa_nil)))))))) (pss_one (ps_ret (pe_ix (k_ixL K) (pv 7) (pe_op op_mod (pv 1) pe_int) (fun _ _ => rfl))))))))))), ?_⟩
  walk_at "go"
  refine w_len (sqL_of (S.ex _ _ ha)) ?_
  rw [List.length_map, hal]
  walk_at "go"
  obtain ⟨j, hj, hjl⟩ : ∃ j : Nat, (j : Int) = n / 17 % ((rows.length : Nat) : Int) ∧ j < rows.length := by
    have h1 := Int.emod_nonneg (n / 17) (b := ((rows.length : Nat) : Int)) (by omega)
    have h2 := Int.emod_lt_of_pos (n / 17) (b := ((rows.length : Nat) : Int)) (by omega)
    generalize n / 17 % ((rows.length : Nat) : Int) = d at *
    exact ⟨d.toNat, by omega, by omega⟩
  rw [← hj]
  obtain ⟨ra, hra, hrr⟩ := hR.get (i := j) (List.getElem?_eq_getElem hjl)
  generalize hrow : rows[j] = row at hrr
  refine w_ixL (v := .ref ra) (sqL_of (S.ex _ _ ha)) (atI_nat (by rw [List.getElem?_map, hra]; rfl)) ?_
  walk_at "go"
  refine w_par2 ?_
  walk_at "go"
  refine u_slice S ha fun ah B1 H1 e1 hah S => ?_
  rw [cut_to, ← List.map_take] at hah
  replace ha := e1 _ _ ha; replace hR := hR.mono e1; replace hrr := e1 _ _ hrr
  walk_at "go"
  rw [show (j : Int) + 1 = ((j + 1 : Nat) : Int) by omega]
  refine u_slice S ha fun be B2 H2 e2 hbe S => ?_
  rw [cut_from, ← List.map_drop] at hbe
  replace ha := e2 _ _ ha; replace hR := hR.mono e2; replace hrr := e2 _ _ hrr; replace hah := e2 _ _ hah
  have e := e1.trans e2
  clear e1 e2
  walk_at "go"
  refine w_parE ?_
  walk_at "go"
  refine u_lst S (sz_le' (by simp)) fun o1 B1 H1 e1 _ ho1 S => ?_
  replace ha := e1 _ _ ha; replace hR := LR.mono e1 hR; replace hrr := e1 _ _ hrr; replace hah := e1 _ _ hah; replace hbe := e1 _ _ hbe; replace e := e.trans e1
  walk_at "go"
  refine w_len (sqL_of (S.ex _ _ ha)) ?_
  rw [List.length_map, hal]
  walk_at "go"
  refine w_len (sqL_of (S.ex _ _ ha)) ?_
  rw [List.length_map, hal]
  walk_at "go"
  refine u_tup S (sz_le' (by simp)) fun o2 B2 H2 e1 ho2 S => ?_
  replace ha := e1 _ _ ha; replace hR := LR.mono e1 hR; replace hrr := e1 _ _ hrr; replace hah := e1 _ _ hah; replace hbe := e1 _ _ hbe; replace e := e.trans e1
  replace ho1 := e1 _ _ ho1
  walk_at "go"
  refine u_lst S (sz_le' (by simp)) fun o3 B3 H3 e1 _ ho3 S => ?_
  replace ha := e1 _ _ ha; replace hR := LR.mono e1 hR; replace hrr := e1 _ _ hrr; replace hah := e1 _ _ hah; replace hbe := e1 _ _ hbe; replace e := e.trans e1
  replace ho1 := e1 _ _ ho1; replace ho2 := e1 _ _ ho2
  walk_at "go"
  obtain ⟨odd, ho, hod⟩ : ∃ odd, atI [V.non, .bl true, .str "0", .ref o1, .int (-1), .int (rows.length : Nat), .int ((rows.length : Nat) + n), .ref o2] (n / 200 % 8) = some odd ∧ PlD B3 (rows.length : Nat) odd false := by
    have b0 := Int.emod_nonneg (n / 200) (b := 8) (by omega)
    have b1 := Int.emod_lt_of_pos (n / 200) (b := 8) (by omega)
    generalize n / 200 % 8 = d at *
    obtain ⟨i, rfl, hi⟩ : ∃ i : Nat, (i : Int) = d ∧ i < 8 := ⟨d.toNat, by omega, by omega⟩
    match i, hi with
    | 0, _ => exact ⟨_, atI_nat (j := 0) rfl, .oth .non (by decide)⟩
    | 1, _ => exact ⟨_, atI_nat (j := 1) rfl, .oth (.bl true) (by decide)⟩
    | 2, _ => exact ⟨_, atI_nat (j := 2) rfl, .oth (.str _) (by decide)⟩
    | 3, _ => exact ⟨_, atI_nat (j := 3) rfl, .oth (.lst ho1) (by decide)⟩
    | 4, _ => exact ⟨_, atI_nat (j := 4) rfl, pl_no (by omega)⟩
    | 5, _ => exact ⟨_, atI_nat (j := 5) rfl, pl_no (by omega)⟩
    | 6, _ => exact ⟨_, atI_nat (j := 6) rfl, pl_no (by omega)⟩
    | 7, _ => exact ⟨_, atI_nat (j := 7) rfl, .oth (.tup ho2) (by decide)⟩
    | k + 8, h => omega
  refine w_ixL (sqL_of (S.ex _ _ ho3)) ho ?_
  clear ho ho1 ho2 ho3
  have hA : AllW B3 [.str "0", .int 5, .non] := by
    intro v hv
    simp only [List.mem_cons, List.not_mem_nil, or_false] at hv
    rcases hv with rfl | rfl | rfl
    · exact .oth (.str _) (by decide)
    · exact .oth (.int _) (by decide)
    · exact .oth .non (by decide)
  walk_at "go"
  refine u_tupL S ha fun q1 B1 H1 e1 h1 S => ?_
  replace ha := e1 _ _ ha; replace hR := LR.mono e1 hR; replace hrr := e1 _ _ hrr; replace hah := e1 _ _ hah; replace hbe := e1 _ _ hbe; replace e := e.trans e1; replace hod := hod.mono e1; replace hA := hA.mono e1
  replace hA := hA.cons (v := .ref q1) (.oth (.tup h1) (by decide))
  clear h1
  walk_at "go"
  refine u_dict S fun q2 B1 H1 e1 h1 S => ?_
  replace ha := e1 _ _ ha; replace hR := LR.mono e1 hR; replace hrr := e1 _ _ hrr; replace hah := e1 _ _ hah; replace hbe := e1 _ _ hbe; replace e := e.trans e1; replace hod := hod.mono e1; replace hA := hA.mono e1
  replace hA := hA.cons (v := .ref q2) (.oth (.dK h1) (by decide))
  clear h1
  walk_at "go"
  refine u_lst S (sz_le' (by simp)) fun q3 B1 H1 e1 _ h1 S => ?_
  replace ha := e1 _ _ ha; replace hR := LR.mono e1 hR; replace hrr := e1 _ _ hrr; replace hah := e1 _ _ hah; replace hbe := e1 _ _ hbe; replace e := e.trans e1; replace hod := hod.mono e1; replace hA := hA.mono e1
  replace hA := hA.cons (v := .ref q3) (by have z := WbD.lst h1 .nil; simpa using z)
  clear h1
  walk_at "go"
  refine u_rep S ha (by decide) (by decide) (by rw [sizeLine_eq]; simp; omega) fun z1 B1 H1 e1 hz1 S => ?_
  replace ha := e1 _ _ ha; replace hR := LR.mono e1 hR; replace hrr := e1 _ _ hrr; replace hah := e1 _ _ hah; replace hbe := e1 _ _ hbe; replace e := e.trans e1; replace hod := hod.mono e1; replace hA := hA.mono e1
  walk_at "go"
  refine u_slice S hz1 fun q4 B1 H1 e1 h1 S => ?_
  replace ha := e1 _ _ ha; replace hR := LR.mono e1 hR; replace hrr := e1 _ _ hrr; replace hah := e1 _ _ hah; replace hbe := e1 _ _ hbe; replace e := e.trans e1; replace hod := hod.mono e1; replace hA := hA.mono e1
  rw [show (9 : Int) = ((9 : Nat) : Int) from rfl, cut_to] at h1
  replace hA := hA.cons (v := .ref q4) (by
    obtain ⟨bs, hb⟩ := AllD.ex (R := RwD B1 (((List.replicate (9 : Int).toNat (as.map V.ref)).flatten.take 9).length : Nat)) (vs := (List.replicate (9 : Int).toNat (as.map V.ref)).flatten.take 9) fun v hv => by
      have hv := List.mem_of_mem_take hv
      obtain ⟨l, hl, hv⟩ := List.mem_flatten.mp hv
      obtain ⟨_, rfl⟩ := List.mem_replicate.mp hl
      obtain ⟨c, hc, rfl⟩ := List.mem_map.mp hv
      obtain ⟨r, hr⟩ := hR.mem c hc
      exact rw_ints hr
    have z := WbD.lst h1 hb
    rw [decide_eq_false (by simp; omega), Bool.false_and] at z
    exact z)
  clear h1 hz1
  walk_at "go"
  refine u_mid S hah hbe (by simp; omega) rfl fun q5 B1 H1 e1 h1 S => ?_
  replace ha := e1 _ _ ha; replace hR := LR.mono e1 hR; replace hrr := e1 _ _ hrr; replace hah := e1 _ _ hah; replace hbe := e1 _ _ hbe; replace e := e.trans e1; replace hod := hod.mono e1; replace hA := hA.mono e1
  replace hA := hA.cons (v := .ref q5) (wb_mid h1 (fun _ _ => .oth .non (by decide)) (fun a h => hR.mem a (List.mem_of_mem_take h)) (fun a h => hR.mem a (List.mem_of_mem_drop h)))
  clear h1
  walk_at "go"
  refine u_tupL S hrr fun t1 B1 H1 e1 ht1 S => ?_
  replace ha := e1 _ _ ha; replace hR := LR.mono e1 hR; replace hrr := e1 _ _ hrr; replace hah := e1 _ _ hah; replace hbe := e1 _ _ hbe; replace e := e.trans e1; replace hod := hod.mono e1; replace hA := hA.mono e1
  walk_at "go"
  refine u_mid S hah hbe (by simp; omega) rfl fun q6 B1 H1 e1 h1 S => ?_
  replace ha := e1 _ _ ha; replace hR := LR.mono e1 hR; replace hrr := e1 _ _ hrr; replace hah := e1 _ _ hah; replace hbe := e1 _ _ hbe; replace e := e.trans e1; replace hod := hod.mono e1; replace hA := hA.mono e1
  replace ht1 := e1 _ _ ht1
  replace hA := hA.cons (v := .ref q6) (wb_mid h1 (fun _ _ => .oth (.tup ht1) (by decide)) (fun a h => hR.mem a (List.mem_of_mem_take h)) (fun a h => hR.mem a (List.mem_of_mem_drop h)))
  clear h1 ht1
  walk_at "go"
  refine u_lst S (sz_le' (by simp)) fun s1 B1 H1 e1 _ hs1 S => ?_
  replace ha := e1 _ _ ha; replace hR := LR.mono e1 hR; replace hrr := e1 _ _ hrr; replace hah := e1 _ _ hah; replace hbe := e1 _ _ hbe; replace e := e.trans e1; replace hod := hod.mono e1; replace hA := hA.mono e1
  walk_at "go"
  refine u_lst S (sz_le' (by simp)) fun z0 B1 H1 e1 _ hz0 S => ?_
  replace ha := e1 _ _ ha; replace hR := LR.mono e1 hR; replace hrr := e1 _ _ hrr; replace hah := e1 _ _ hah; replace hbe := e1 _ _ hbe; replace e := e.trans e1; replace hod := hod.mono e1; replace hA := hA.mono e1
  replace hs1 := e1 _ _ hs1
  walk_at "go"
  refine u_rep S hz0 (by decide) (by decide) (sz_le' (by simp)) fun z1 B1 H1 e1 hz1 S => ?_
  replace ha := e1 _ _ ha; replace hR := LR.mono e1 hR; replace hrr := e1 _ _ hrr; replace hah := e1 _ _ hah; replace hbe := e1 _ _ hbe; replace e := e.trans e1; replace hod := hod.mono e1; replace hA := hA.mono e1
  replace hs1 := e1 _ _ hs1
  walk_at "go"
  have hrl := (hv.row row (hrow ▸ List.getElem_mem hjl)).1
  refine u_cat S hrr hz1 (by rw [sizeLine_eq]; simp; omega) fun z2 B1 H1 e1 hz2 S => ?_
  replace ha := e1 _ _ ha; replace hR := LR.mono e1 hR; replace hrr := e1 _ _ hrr; replace hah := e1 _ _ hah; replace hbe := e1 _ _ hbe; replace e := e.trans e1; replace hod := hod.mono e1; replace hA := hA.mono e1
  replace hs1 := e1 _ _ hs1
  walk_at "go"
  refine u_slice S hz2 fun z3 B1 H1 e1 hz3 S => ?_
  replace ha := e1 _ _ ha; replace hR := LR.mono e1 hR; replace hrr := e1 _ _ hrr; replace hah := e1 _ _ hah; replace hbe := e1 _ _ hbe; replace e := e.trans e1; replace hod := hod.mono e1; replace hA := hA.mono e1
  replace hs1 := e1 _ _ hs1
  rw [show (4 : Int) = ((4 : Nat) : Int) from rfl, cut_to] at hz3
  have hz4 : ∀ m, RwD B1 m (.ref z3) false := fun m => by
    obtain ⟨bs, hb⟩ := AllD.ex (R := PlD B1 m) (vs := (row.map V.int ++ (List.replicate ((4 : Nat) : Int).toNat [V.int 0]).flatten).take 4) fun v hv => by
      have hv := List.mem_of_mem_take hv
      rcases List.mem_append.mp hv with hv | hv
      · exact pl_ints v hv
      · obtain ⟨l, hl, hv⟩ := List.mem_flatten.mp hv
        obtain ⟨_, rfl⟩ := List.mem_replicate.mp hl
        rw [List.mem_singleton.mp hv]
        exact ⟨_, .int 0⟩
    have z := RwD.lst hz3 hb
    rw [decide_eq_false (by simp), Bool.false_and] at z
    exact z
  clear hz0 hz1 hz2 hz3
  walk_at "go"
  refine u_mid S hah hbe (by simp; omega) rfl fun q7 B1 H1 e1 h1 S => ?_
  replace ha := e1 _ _ ha; replace hR := LR.mono e1 hR; replace hrr := e1 _ _ hrr; replace hah := e1 _ _ hah; replace hbe := e1 _ _ hbe; replace e := e.trans e1; replace hod := hod.mono e1; replace hA := hA.mono e1
  replace hs1 := e1 _ _ hs1
  replace hA := hA.cons (v := .ref q7) (wb_mid h1 (fun m _ => (hz4 m).mono e1) (fun a h => hR.mem a (List.mem_of_mem_take h)) (fun a h => hR.mem a (List.mem_of_mem_drop h)))
  clear h1
  clear hz4
  walk_at "go"
  refine u_lst S (sz_le' (by simp)) fun y0 B1 H1 e1 _ hy0 S => ?_
  replace ha := e1 _ _ ha; replace hR := LR.mono e1 hR; replace hrr := e1 _ _ hrr; replace hah := e1 _ _ hah; replace hbe := e1 _ _ hbe; replace e := e.trans e1; replace hod := hod.mono e1; replace hA := hA.mono e1
  replace hs1 := e1 _ _ hs1
  walk_at "go"
  refine u_slice S hrr fun y1 B1 H1 e1 hy1 S => ?_
  replace ha := e1 _ _ ha; replace hR := LR.mono e1 hR; replace hrr := e1 _ _ hrr; replace hah := e1 _ _ hah; replace hbe := e1 _ _ hbe; replace e := e.trans e1; replace hod := hod.mono e1; replace hA := hA.mono e1
  replace hs1 := e1 _ _ hs1; replace hy0 := e1 _ _ hy0
  rw [show (1 : Int) = ((1 : Nat) : Int) from rfl, cut_from, ← List.map_drop] at hy1
  walk_at "go"
  refine u_cat S hy0 hy1 (by rw [sizeLine_eq]; simp; omega) fun y2 B1 H1 e1 hy2 S => ?_
  replace ha := e1 _ _ ha; replace hR := LR.mono e1 hR; replace hrr := e1 _ _ hrr; replace hah := e1 _ _ hah; replace hbe := e1 _ _ hbe; replace e := e.trans e1; replace hod := hod.mono e1; replace hA := hA.mono e1
  replace hs1 := e1 _ _ hs1
  clear hy0 hy1
  walk_at "go"
  refine u_mid S hah hbe (by simp; omega) rfl fun q8 B1 H1 e1 h1 S => ?_
  replace ha := e1 _ _ ha; replace hR := LR.mono e1 hR; replace hrr := e1 _ _ hrr; replace hah := e1 _ _ hah; replace hbe := e1 _ _ hbe; replace e := e.trans e1; replace hod := hod.mono e1; replace hA := hA.mono e1
  replace hs1 := e1 _ _ hs1; replace hy2 := e1 _ _ hy2
  replace hA := hA.cons (v := .ref q8) (wb_mid h1 (fun m hm => rw_bad (us := []) hy2 (by rw [show m = ((rows.length : Nat) : Int) by rw [hm]; simp; omega]; exact hod) (by simp) pl_ints) (fun a h => hR.mem a (List.mem_of_mem_take h)) (fun a h => hR.mem a (List.mem_of_mem_drop h)))
  clear h1
  clear hy2
  walk_at "go"
  refine u_mid S hah hbe (by simp; omega) rfl fun q9 B1 H1 e1 h1 S => ?_
  replace ha := e1 _ _ ha; replace hR := LR.mono e1 hR; replace hrr := e1 _ _ hrr; replace hah := e1 _ _ hah; replace hbe := e1 _ _ hbe; replace e := e.trans e1; replace hod := hod.mono e1; replace hA := hA.mono e1
  replace hs1 := e1 _ _ hs1
  replace hA := hA.cons (v := .ref q9) (wb_mid h1 (fun _ _ => .oth (.int 0) (by decide)) (fun a h => hR.mem a (List.mem_of_mem_take h)) (fun a h => hR.mem a (List.mem_of_mem_drop h)))
  clear h1
  walk_at "go"
  refine u_lst S (sz_le' (by simp)) fun s2 B1 H1 e1 _ hs2 S => ?_
  replace ha := e1 _ _ ha; replace hR := LR.mono e1 hR; replace hrr := e1 _ _ hrr; replace hah := e1 _ _ hah; replace hbe := e1 _ _ hbe; replace e := e.trans e1; replace hod := hod.mono e1; replace hA := hA.mono e1
  replace hs1 := e1 _ _ hs1
  refine u_cat S hs1 hs2 (sz_le' (by simp)) fun s3 B1 H1 e1 hs3 S => ?_
  replace ha := e1 _ _ ha; replace hR := LR.mono e1 hR; replace hrr := e1 _ _ hrr; replace hah := e1 _ _ hah; replace hbe := e1 _ _ hbe; replace e := e.trans e1; replace hod := hod.mono e1; replace hA := hA.mono e1
  clear hs1 hs2
  walk_at "go"
  refine u_slice S hrr fun w0 B1 H1 e1 hw0 S => ?_
  replace ha := e1 _ _ ha; replace hR := LR.mono e1 hR; replace hrr := e1 _ _ hrr; replace hah := e1 _ _ hah; replace hbe := e1 _ _ hbe; replace e := e.trans e1; replace hod := hod.mono e1; replace hA := hA.mono e1
  replace hs3 := e1 _ _ hs3
  rw [show (2 : Int) = ((2 : Nat) : Int) from rfl, cut_to, ← List.map_take] at hw0
  walk_at "go"
  refine u_lst S (sz_le' (by simp)) fun w1 B1 H1 e1 _ hw1 S => ?_
  replace ha := e1 _ _ ha; replace hR := LR.mono e1 hR; replace hrr := e1 _ _ hrr; replace hah := e1 _ _ hah; replace hbe := e1 _ _ hbe; replace e := e.trans e1; replace hod := hod.mono e1; replace hA := hA.mono e1
  replace hs3 := e1 _ _ hs3; replace hw0 := e1 _ _ hw0
  refine u_cat S hw0 hw1 (by rw [sizeLine_eq]; simp; omega) fun w2 B1 H1 e1 hw2 S => ?_
  replace ha := e1 _ _ ha; replace hR := LR.mono e1 hR; replace hrr := e1 _ _ hrr; replace hah := e1 _ _ hah; replace hbe := e1 _ _ hbe; replace e := e.trans e1; replace hod := hod.mono e1; replace hA := hA.mono e1
  replace hs3 := e1 _ _ hs3
  clear hw0 hw1
  walk_at "go"
  refine u_mid S hah hbe (by simp; omega) rfl fun q10 B1 H1 e1 h1 S => ?_
  replace ha := e1 _ _ ha; replace hR := LR.mono e1 hR; replace hrr := e1 _ _ hrr; replace hah := e1 _ _ hah; replace hbe := e1 _ _ hbe; replace e := e.trans e1; replace hod := hod.mono e1; replace hA := hA.mono e1
  replace hs3 := e1 _ _ hs3; replace hw2 := e1 _ _ hw2
  replace hA := hA.cons (v := .ref q10) (wb_mid h1 (fun m hm => rw_bad (vs := []) (by rw [List.append_nil]; exact hw2) (by rw [show m = ((rows.length : Nat) : Int) by rw [hm]; simp; omega]; exact hod) pl_ints (by simp)) (fun a h => hR.mem a (List.mem_of_mem_take h)) (fun a h => hR.mem a (List.mem_of_mem_drop h)))
  clear h1
  clear hw2
  walk_at "go"
  refine u_lst S (sz_le' (by simp)) fun v0 B1 H1 e1 _ hv0 S => ?_
  replace ha := e1 _ _ ha; replace hR := LR.mono e1 hR; replace hrr := e1 _ _ hrr; replace hah := e1 _ _ hah; replace hbe := e1 _ _ hbe; replace e := e.trans e1; replace hod := hod.mono e1; replace hA := hA.mono e1
  replace hs3 := e1 _ _ hs3
  replace hA := hA.cons (v := .ref v0) (by
    have hb : RwD B1 1 (.ref a) false := by
      match as, ha, hR, hal with
      | [], _, _, hal => simp at hal; omega
      | a0 :: as, ha, hR, _ =>
        obtain ⟨r, hr⟩ := hR.mem a0 List.mem_cons_self
        exact rw_bad (us := []) (x := .ref a0) (vs := as.map V.ref) ha (.oth (.lst hr) (by decide)) (by simp) fun v hv => by
          obtain ⟨c, hc, rfl⟩ := List.mem_map.mp hv
          obtain ⟨r, hr⟩ := hR.mem c (List.mem_cons_of_mem _ hc)
          exact ⟨_, .oth (.lst hr) (by decide)⟩
    have z := WbD.lst (bs := [false]) hv0 (.cons hb .nil)
    simpa using z)
  clear hv0
  walk_at "go"
  refine u_mid S hah hbe (by simp; omega) rfl fun q11 B1 H1 e1 h1 S => ?_
  replace ha := e1 _ _ ha; replace hR := LR.mono e1 hR; replace hrr := e1 _ _ hrr; replace hah := e1 _ _ hah; replace hbe := e1 _ _ hbe; replace e := e.trans e1; replace hod := hod.mono e1; replace hA := hA.mono e1
  replace hs3 := e1 _ _ hs3
  replace hA := hA.cons (v := .ref q11) (wb_mid h1 (fun _ _ => .oth (.str _) (by decide)) (fun a h => hR.mem a (List.mem_of_mem_take h)) (fun a h => hR.mem a (List.mem_of_mem_drop h)))
  clear h1
  walk_at "go"
  refine u_dict S fun d1 B1 H1 e1 hd1 S => ?_
  replace ha := e1 _ _ ha; replace hR := LR.mono e1 hR; replace hrr := e1 _ _ hrr; replace hah := e1 _ _ hah; replace hbe := e1 _ _ hbe; replace e := e.trans e1; replace hod := hod.mono e1; replace hA := hA.mono e1
  replace hs3 := e1 _ _ hs3
  walk_at "go"
  refine u_mid S hah hbe (by simp; omega) rfl fun q12 B1 H1 e1 h1 S => ?_
  replace ha := e1 _ _ ha; replace hR := LR.mono e1 hR; replace hrr := e1 _ _ hrr; replace hah := e1 _ _ hah; replace hbe := e1 _ _ hbe; replace e := e.trans e1; replace hod := hod.mono e1; replace hA := hA.mono e1
  replace hs3 := e1 _ _ hs3; replace hd1 := e1 _ _ hd1
  replace hA := hA.cons (v := .ref q12) (wb_mid h1 (fun _ _ => .oth (.dK hd1) (by decide)) (fun a h => hR.mem a (List.mem_of_mem_take h)) (fun a h => hR.mem a (List.mem_of_mem_drop h)))
  clear h1
  walk_at "go"
  refine u_lst S (sz_le' (by simp)) fun s4 B1 H1 e1 _ hs4 S => ?_
  replace ha := e1 _ _ ha; replace hR := LR.mono e1 hR; replace hrr := e1 _ _ hrr; replace hah := e1 _ _ hah; replace hbe := e1 _ _ hbe; replace e := e.trans e1; replace hod := hod.mono e1; replace hA := hA.mono e1
  replace hs3 := e1 _ _ hs3
  refine u_cat S hs3 hs4 (sz_le' (by simp)) fun s5 B1 H1 e1 hs5 S => ?_
  replace ha := e1 _ _ ha; replace hR := LR.mono e1 hR; replace hrr := e1 _ _ hrr; replace hah := e1 _ _ hah; replace hbe := e1 _ _ hbe; replace e := e.trans e1; replace hod := hod.mono e1; replace hA := hA.mono e1
  clear hs3 hs4
  walk_at "go"
  replace hA := hA.cons (v := .bl true) (.oth (.bl _) (by decide))
  obtain ⟨v, hv1, hw⟩ : ∃ v, atI (([V.non, .int 5, .str "0", .ref q1, .ref q2, .ref q3, .ref q4, .ref q5, .ref q6] ++ [.ref q7, .ref q8, .ref q9]) ++ [.ref q10, .bl true, .ref v0, .ref q11, .ref q12]) (n % 17) = some v ∧ WbD B1 v false := by
    have b0 := Int.emod_nonneg n (b := 17) (by omega)
    have b1 := Int.emod_lt_of_pos n (b := 17) (by omega)
    generalize n % 17 = d at *
    obtain ⟨i, rfl, hi⟩ : ∃ i : Nat, (i : Int) = d ∧ i < 17 := ⟨d.toNat, by omega, by omega⟩
    match i, hi with
    | 0, _ => exact ⟨_, atI_nat (j := 0) rfl, hA _ (by simp)⟩
    | 1, _ => exact ⟨_, atI_nat (j := 1) rfl, hA _ (by simp)⟩
    | 2, _ => exact ⟨_, atI_nat (j := 2) rfl, hA _ (by simp)⟩
    | 3, _ => exact ⟨_, atI_nat (j := 3) rfl, hA _ (by simp)⟩
    | 4, _ => exact ⟨_, atI_nat (j := 4) rfl, hA _ (by simp)⟩
    | 5, _ => exact ⟨_, atI_nat (j := 5) rfl, hA _ (by simp)⟩
    | 6, _ => exact ⟨_, atI_nat (j := 6) rfl, hA _ (by simp)⟩
    | 7, _ => exact ⟨_, atI_nat (j := 7) rfl, hA _ (by simp)⟩
    | 8, _ => exact ⟨_, atI_nat (j := 8) rfl, hA _ (by simp)⟩
    | 9, _ => exact ⟨_, atI_nat (j := 9) rfl, hA _ (by simp)⟩
    | 10, _ => exact ⟨_, atI_nat (j := 10) rfl, hA _ (by simp)⟩
    | 11, _ => exact ⟨_, atI_nat (j := 11) rfl, hA _ (by simp)⟩
    | 12, _ => exact ⟨_, atI_nat (j := 12) rfl, hA _ (by simp)⟩
    | 13, _ => exact ⟨_, atI_nat (j := 13) rfl, hA _ (by simp)⟩
    | 14, _ => exact ⟨_, atI_nat (j := 14) rfl, hA _ (by simp)⟩
    | 15, _ => exact ⟨_, atI_nat (j := 15) rfl, hA _ (by simp)⟩
    | 16, _ => exact ⟨_, atI_nat (j := 16) rfl, hA _ (by simp)⟩
    | k + 17, h => omega
  refine w_ixL (sqL_of (S.ex _ _ hs5)) hv1 ?_
  exact hQ v B1 _ e S hw
end
end Rw

set_option maxHeartbeats 4000000
namespace Rw
open PySem PySem.Spec PyProof.Rows L2
local macro_rules | `(tactic| walk_at "go1") => `(tactic| first
  | (with_reducible refine w_seq ?_)
  | (with_reducible refine w_asg ?_)
  | (with_reducible refine w_name ?_)
  | (with_reducible refine w_drop ?_)
  | (with_reducible refine w_ret ?_)
  | (with_reducible refine w_next ?_)
  | (with_reducible refine w_op ?_)
  | (with_reducible refine w_un ?_)
  | (with_reducible refine w_c ?_)
  | (with_reducible refine w_var (by with_unfolding_all rfl) ?_)
  | (with_reducible refine w_rI0 ?_)
  | (with_reducible refine w_rU ?_)
  | ((with_reducible refine w_mod ?_ ?_); (show (0 : Int) < _); omega)
  | ((with_reducible refine w_div ?_ ?_); exact And.intro (by omega) (by omega))
  | ((with_reducible refine w_mul ?_ ?_); (first | exact Or.inl (And.intro (by omega) (by omega)) | exact Or.inr (And.intro (by omega) (by omega))))
  | (with_reducible refine w_ifS ?_)
  | (with_reducible refine w_if ?_)
  | (with_reducible refine w_test ?_)
  | (with_reducible refine w_B ?_)
  | (with_reducible refine w_bl ?_)
  | (with_reducible refine w_not ?_)
  | (with_reducible refine w_and ?_)
  | (with_reducible refine w_or ?_)
  | (with_reducible refine w_cons ?_)
  | (with_reducible refine w_nil ?_)
  | (with_reducible refine w_call ?_)
  | (with_reducible refine w_cb ?_)
  | (with_reducible refine w_bm0 ?_)
  | (with_reducible refine w_bm ?_)
  | (with_reducible refine w_tlst ?_)
  | (with_reducible refine w_ttup ?_)
  | (with_reducible refine w_sub ?_)
  | (with_reducible refine w_for ?_)
  | (with_reducible refine w_rng1 ?_)
  | ((with_reducible refine w_rngE ?_ ?_ ?_); omega; omega)
  | (with_reducible refine w_iL ?_)
  | (with_reducible refine w_iT ?_)
  | (with_reducible refine w_iE ?_)
  | (with_reducible refine w_iZ ?_)
  | (with_reducible refine w_lc ?_)
  | (with_reducible refine w_yes ?_)
  | (with_reducible refine w_gcons ?_)
  | (with_reducible refine w_gnil ?_)
  | (with_reducible refine w_max2 ?_)
  | (with_reducible refine w_sl ?_)
  | (with_reducible refine w_part ?_)
  | (with_reducible refine w_partI ?_)
  | (with_reducible refine w_nopart ?_)
  | (with_reducible refine w_isT ?_)
  | (with_reducible refine w_notT ?_)
  | (with_reducible refine w_isB ?_)
  | (with_reducible refine w_notB ?_)
  | (with_reducible refine w_isN ?_)
  | (with_reducible refine w_notN ?_)
  | (with_reducible refine w_fld ?_)
  | (with_reducible refine w_ftm ?_)
  | (with_reducible refine w_lrg ?_)
  | (with_reducible refine w_rg1 ?_)
  | (with_reducible refine w_rg1E ?_)
  | (with_reducible refine w_tru ?_)
  | (with_reducible refine w_truB ?_)
  | (with_reducible refine w_truI ?_)
  | (with_reducible refine w_notT' ?_)
  | (with_reducible refine w_andT ?_)
  | (with_reducible refine w_orT ?_)
  | (with_reducible refine w_andV ?_)
  | (with_reducible refine w_orV ?_)
  | (with_reducible refine w_andE ?_)
  | (with_reducible refine w_orE ?_)
  | (with_reducible refine w_notV ?_)
  | (with_reducible refine w_notE ?_)
  | (with_reducible refine w_chain ?_)
  | (with_reducible refine w_chainI ?_)
  | (with_reducible refine w_meth ?_)
  | (with_reducible refine w_make ?_)
  | (with_reducible refine w_sfld ?_))
local macro_rules | `(tactic| walk_at "go") => `(tactic| repeat walk_at "go1")

local macro_rules | `(tactic| walk_at "go1") => `(tactic| first
  | (with_reducible refine w_callX ?_)
  | (with_reducible refine w_methX ?_)
  | (with_reducible refine w_makeX ?_))

section
variable {B B1 H : Hp} {M : List (Addr × HO)} {a : Addr} {o : HO} {Q : VK} {σ : L2.St} {D : Ends}
/-- without one thing -/
def del (B : Hp) (a : Addr) : Hp := fun b => if b = a then none else B b
theorem del_ne {b : Addr} (h : b ≠ a) : del B a b = B b := by unfold del; rw [if_neg h]
theorem del_same : del B a a = none := by unfold del; rw [if_pos rfl]
theorem Hs.open_ (S : Hs B M H) (h : B a = some o) : Hs (del B a) ((a, o) :: M) H := by
  refine ⟨fun b u e => ?_, fun c hc => ?_, List.nodup_cons.mpr ⟨fun hm => ?_, S.nd⟩⟩
  · by_cases hb : b = a
    · subst hb
      rw [del_same] at e
      cases e
    · rw [del_ne hb] at e
      exact S.ex b u e
  · rcases List.mem_cons.mp hc with q | q
    · subst q
      exact ⟨del_same, S.ex _ _ h⟩
    · obtain ⟨h1, h2⟩ := S.cel c q
      refine ⟨?_, h2⟩
      by_cases hb : c.1 = a
      · rw [hb]; exact del_same
      · rw [del_ne hb]; exact h1
  · obtain ⟨c, hc, q⟩ := List.mem_map.mp hm
    have := (S.cel c hc).1
    rw [show c.1 = a from q, h] at this
    cases this
theorem TabS.del {Pt : Addr} {q : Str} {xs : List V} (t : LamX.TabS H Pt q) (h : H a = some (.lst xs)) : LamX.TabS (Rw.del H a) Pt q := by
  obtain ⟨ps, h1, h2, h3⟩ := t
  refine ⟨ps, by rw [del_ne (ne_of h1 h (by intro z; cases z))]; exact h1, h2, fun pos cv hc => ?_⟩
  obtain ⟨c, e1, e2⟩ := h3 pos cv hc
  exact ⟨c, e1, by rw [del_ne (ne_of e2 h (by unfold LamX.CodeO; intro z; cases z))]; exact e2⟩
theorem extN_del {Bf : Hp} (e : LamX.ExtN Bf H) (h : Bf a = none) : LamX.ExtN Bf (Rw.del H a) := fun b o hb n => by
  rw [del_ne (ne_of_none hb h)]
  exact e b o hb n
end
-- law: 0 _law_script, 1 _law_k, 2 _law_cell, 3 _law_rows_here, 4 _law_number, 5 _law_told, 6 _law_odd, 7 _law_thing, 8 _law_web
abbrev s_law : Stmt := top 26
theorem sc_law : FnScope ["_law_script", "_law_k", "_law_cell", "_law_rows_here", "_law_number", "_law_told", "_law_odd", "_law_thing", "_law_web"] ["_law_script"] (defScope s_law) := ⟨rfl, rfl, rfl, by decide +kernel, rfl, by decide +kernel, by decide +kernel⟩
def spLawT (K : PySem.W.Frag) (Pt : Addr) : Sp := fun vs H Q _ => ∃ (a : Addr) (ns : List Int), vs = [.ref a] ∧ H Pt = some (.tbl #[]) ∧ SqL K H a (ns.map V.int) ∧ ns.length ≤ 63 ∧ ∀ H', Q (.bl true) H'
structure NamesL (mg : Str → Option Value) : Prop where
  n_enumerate : mg "enumerate" = none
  n_len : mg "len" = none
section
variable {P : Program} {w : World} {K : PySem.W.Frag} {mg : Str → Option Value} {base : Heap} {A_WalkError A_BadWeb A_BadHands A_BadPlace A_BadCount A_NoStep A_NotEven A_Endless CW c Pt f : Addr} {fd : FuncData}
theorem ok_law (T : NamesL mg) (T0 : Names mg) (TE : ErrNs mg A_WalkError A_BadWeb A_BadHands A_BadPlace A_BadCount A_NoStep A_NotEven A_Endless) (G_word : Glo K mg "_law_word" s_law_word) (T_Web : Cls K CW) (F : Fun K "law" "law" s_law f fd) (hcode : fd.code = .ref c) (TB : LamX.TabB base mg c Pt)
    (C_law_mixed : Cal P w K mg base "_law_mixed" 7 ["_law_cell", "_law_k"] spMixed) (C_law_rows : Cal P w K mg base "_law_rows" 7 ["_law_cell", "_law_k"] (spRows K)) (C_law_spoilt : Cal P w K mg base "_law_spoilt" 7 ["_law_rows_here", "_law_number"] spSpoilt)
    (C_is_web : Cal P w K mg base "is_web" 7 ["thing"] spIsWebD) (C_Web : CalC P w K mg base CW "Web" 6 ["self", "rows"] (spInit CW)) (C_Web_rows : CalM P w K mg base CW "rows" 7 ["self"] (spRowsM CW))
    (WB : WordOf K A_WalkError A_BadWeb A_BadHands A_BadPlace A_BadCount A_NoStep A_NotEven A_Endless A_BadWeb true false false false false false) (WP : WordOf K A_WalkError A_BadWeb A_BadHands A_BadPlace A_BadCount A_NoStep A_NotEven A_Endless A_BadPlace false false true false false false)
    (XC_Web : CalCX P w K mg base CW "Web" 4 ["self", "rows"] (spInitX A_BadWeb)) (XC_Web_is_rest : CalMX P w K mg base CW "is_rest" 5 ["self", "place"] (spIsRestX CW A_BadPlace)) (XC_Web_comes : CalMX P w K mg base CW "comes" 5 ["self", "place", "other"] (spComesX CW A_BadPlace)) : FnOk P w K mg base CX0 8 f fd ["_law_script"] (spLawT K Pt) := by
  obtain ⟨oc, od, kV, doc, pm, an, cdv, ct, osl, rfl, lk, hcd⟩ := id F.ex
  obtain rfl : cdv = .ref c := hcode
  refine fn_of lk hcd sc_law (fun vs H Q E h => ?_) (fun A outer s H vs Q E hr h => ?_)
  · obtain ⟨a, ns, rfl, _⟩ := h; rfl
  obtain ⟨a, ns, rfl, hP, hS, hn, hQ⟩ := h
  refine ⟨_, PSs.nox ((pss_cons (ps_for PassesOwn.never rfl (pi_enumK K rfl T.n_enumerate (pa_cons (pe_op op_cat (pe_lst (pa_cons pe_int pa_nil)) (pe_slice (k_slL K) (pv 0) po_none (po_some pe_int))) pa_nil)) (pg_tupK (n := 2) K rfl (pgs_cons (pg_name (i := 1) sc_law.nd rfl (Or.inl rfl)) (pgs_cons (pg_name (i := 2) sc_law.nd rfl (Or.inl rfl)) pgs_nil))) (pss_cons (ps_set (i := 3) sc_law.nd rfl (Or.inl rfl) (pe_cal C_law_rows hr rfl (pa_cons (pv 2) (pa_cons (pv 1) pa_nil)))) (pss_cons (ps_set (i := 4) sc_law.nd rfl (Or.inl rfl) (pe_cal C_law_mixed hr rfl (pa_cons (pv 2) (pa_cons (pe_op op_add (pv 1) pe_int) pa_nil)))) (pss_cons (ps_set (i := 7) sc_law.nd rfl (Or.inr rfl) (pe_cal C_law_spoilt hr rfl (pa_cons (pv 3) (pa_cons (pv 4) pa_nil)))) (pss_cons (ps_if (PW.pt (pw_or (pt_cmpR op_notBX (pe_cal C_is_web hr rfl (pa_cons (pv 7) pa_nil)) pe_bl (nomark _)) (pw_or1 (pt_cmpR (k_neD K hr.units) (pe_word (k := 5) G_word T0 TE rfl TB rfl (List.mem_singleton.mpr rfl) (fun p hp _ => by rw [List.mem_singleton.mp hp]) hr (LamX.lamS_by (sc := defScope s_law) (by decide +kernel)) rfl (fun _ _ _ _ _ => rfl) (fun A outer s H E f c' hr2 => (pe_mkX XC_Web hr2 rfl (takes_of rfl rfl rfl rfl) (fun _ _ _ _ h => h) (pa_cons (pv 7) pa_nil)))) (pe_lst (pa_cons pe_str pa_nil)) (nomark _))))) (pss_one (ps_ret pe_bl)) pss_nil) (pss_cons (ps_set (i := 8) sc_law.nd rfl (Or.inr rfl) (pe_mk C_Web hr rfl (pa_cons (pv 3) pa_nil))) (pss_cons (ps_set (i := 6) sc_law.nd rfl (Or.inr rfl) (pe_ix (k_ixL K) (pe_lst (pa_cons pe_non (pa_cons pe_bl (pa_cons pe_str (pa_cons (pe_lst (pa_cons pe_int pa_nil)) (pa_cons (pe_un un_neg pe_int) (pa_cons (pe_callB (k_len K) rfl T.n_len boot_len (pa_cons (pv 3) pa_nil)) (pa_cons (pe_op op_add (pe_callB (k_len K) rfl T.n_len boot_len (pa_cons (pv 3) pa_nil)) (pv 4)) (pa_cons (pe_tup (pa_cons pe_int pa_nil)) (pa_cons pe_dnewK (pa_cons pe_bl pa_nil))))))))))) (pe_op op_mod (pe_op op_fdiv (pv 4) pe_int) pe_int) (fun _ _ => rfl))) (pss_cons (ps_set (i := 5) sc_law.nd rfl (Or.inl rfl) (pe_lst (pa_cons (pe_word (k := 5) G_word T0 TE rfl TB rfl (List.mem_singleton.mpr rfl) (fun p hp _ => by rw [List.mem_singleton.mp hp]) hr (LamX.lamS_by (sc := defScope s_law) (by decide +kernel)) rfl (fun _ _ _ _ _ => rfl) (fun A outer s H E f c' hr2 => (pe_calMX (pv 8) T_Web XC_Web_is_rest hr2 (takes_of rfl rfl rfl rfl) (fun _ _ _ _ h => h) (pa_cons (pv 6) pa_nil)))) pa_nil))) (pss_cons (ps_expr (pe_bmK K PySem.F.plainAttrs_list PySem.F.slot_list_append PySem.F.type_list_append mt_append (pv 5) (pa_cons (pe_word (k := 5) G_word T0 TE rfl TB rfl (List.mem_singleton.mpr rfl) (fun p hp _ => by rw [List.mem_singleton.mp hp]) hr (LamX.lamS_by (sc := defScope s_law) (by decide +kernel)) rfl (fun _ _ _ _ _ => rfl) (fun A outer s H E f c' hr2 => (pe_calMX (pv 8) T_Web XC_Web_comes hr2 (takes_of rfl rfl rfl rfl) (fun _ _ _ _ h => h) (pa_cons (pv 6) (pa_cons pe_int pa_nil))))) pa_nil))) (pss_cons (ps_expr (pe_bmK K PySem.F.plainAttrs_list PySem.F.slot_list_append PySem.F.type_list_append mt_append (pv 5) (pa_cons (pe_word (k := 5) G_word T0 TE rfl TB rfl (List.mem_singleton.mpr rfl) (fun p hp _ => by rw [List.mem_singleton.mp hp]) hr (LamX.lamS_by (sc := defScope s_law) (by decide +kernel)) rfl (fun _ _ _ _ _ => rfl) (fun A outer s H E f c' hr2 => (pe_calMX (pv 8) T_Web XC_Web_comes hr2 (takes_of rfl rfl rfl rfl) (fun _ _ _ _ h => h) (pa_cons pe_int (pa_cons (pv 6) pa_nil))))) pa_nil))) (pss_one (ps_if (PW.pt (pw_or (pt_cmpR (k_neD K hr.units) (pv 5) (pe_op op_rep (pe_lst (pa_cons (pe_lst (pa_cons pe_str pa_nil)) pa_nil)) pe_int) (nomark _)) (pw_or1 (pt_cmpR (k_neD K hr.units) (pe_calM0 (pv 8) T_Web C_Web_rows hr) (pv 3) (nomark _))))) (pss_one (ps_ret pe_bl)) pss_nil)))))))))))) (pss_one (ps_ret pe_bl)))), ?_⟩
  walk_at "go"
  refine u_lst (Hs.nil H) (sz_le (by simp)) fun p0 B1 H1 e1 _ h0 S1 => ?_
  walk_at "go"
  refine w_slice S1 (sql_up (sql_up hS e1) S1.ex) fun p H2 S2 => ?_
  obtain ⟨zs, ez, hz⟩ := cutV_ints ns none (some 63)
  rw [ez] at S2
  obtain ⟨B2, e2, h1, S2⟩ := S2.shut 0
  refine u_cat S2 (e2 _ _ h0) h1 (sz_le (by simp; omega)) fun p1 B3 H3 e3 hp1 S3 => ?_
  replace hp1 : H3 p1 = some (.lst ((2 :: zs).map V.int)) := S3.ex _ _ hp1
  have hT : LamX.TabS H3 Pt (("law" : Str) ++ (".<locals>." : Str) ++ ("<lambda>" : Str)) := LamX.TabS.nil (S3.ex _ _ (e3 _ _ (e2 _ _ (e1 _ _ hP))))
  clear S1 S2 e1 e2 e3 S3
  walk_at "go"
  refine w_iEE (sqL_of hp1) ?_
  refine for_enu (xs := (2 :: zs).map V.int) (fun i σ H => ∃ v1 v2 v3 v4 v5 v6 v7 v8 : Option V, σ = [some (.ref a), v1, v2, v3, v4, v5, v6, v7, v8] ∧ H p1 = some (.lst ((2 :: zs).map V.int)) ∧ LamX.TabS H Pt (("law" : Str) ++ (".<locals>." : Str) ++ ("<lambda>" : Str)))
    ⟨none, none, none, none, none, none, none, none, rfl, hp1, hT⟩ (fun i σ H _ ⟨_, _, _, _, _, _, _, _, _, h, _⟩ => sqL_of h) ?_ ?_
  · clear hp1 hT
    rintro i x σ H2 T0 hx ⟨v1, v2, v3, v4, v5, v6, v7, v8, rfl, hp1, hT⟩ hT0
    obtain ⟨c0, hc, rfl⟩ : ∃ c, (2 :: zs)[i]? = some c ∧ V.int c = x := by
      rw [List.getElem?_map] at hx
      exact Option.map_eq_some_iff.mp hx
    have hi64 : i < 64 := by have := (List.getElem?_eq_some_iff.mp hc).1; simp at this; omega
    have S4 := (Hs.nil H2).new hT0 (.tup [.int (i : Int), .int c0])
    generalize upd H2 T0 (.tup [.int (i : Int), .int c0]) = H4 at S4
    refine w_gtup (sqT_of (S4.get 0)) rfl ?_
    replace hp1 := S4.ex _ _ hp1; replace hT := hT.ext S4.ex
    clear S4 hT0
    walk_at "go"
    refine ⟨_, _, H4, [], rfl, by omega, by omega, Hs.nil H4, fun q B H5 e S hL => ?_⟩
    have e := e.trans S.ex
    replace hL := hL.mono S.ex
    replace hp1 := e _ _ hp1; replace hT := hT.ext e
    have hv := rows_valid c0 (i : Int)
    generalize rows c0 (i : Int) = rs at *
    clear e S
    walk_at "go"
    refine ⟨c0, (i : Int) + 91, rfl, by omega, by omega, ?_⟩
    have n0 := mixed_nn c0 ((i : Int) + 91)
    have n1 := mixed_lt c0 ((i : Int) + 91)
    generalize mixed c0 ((i : Int) + 91) = num at *
    walk_at "go"
    refine ⟨H5, [], q, rs, num, rfl, Hs.nil H5, hL, hv, n0, n1, fun th B H6 e S hw => ?_⟩
    have e := e.trans S.ex
    replace hw := hw.mono S.ex
    replace hp1 := e _ _ hp1; replace hT := hT.ext e; replace hL := hL.mono e
    clear e S
    walk_at "go"
    refine ⟨H6, [], th, false, rfl, Hs.nil H6, hw, fun H7 S => ?_⟩
    replace hp1 := S.ex _ _ hp1; replace hT := hT.ext S.ex; replace hL := hL.mono S.ex; replace hw := hw.mono S.ex
    clear S
    walk_at "go"
    refine iteF ?_
    walk_at "go"
    refine w_lam (congrArg (fun z : Str => [(Pt, z ++ ("<lambda>" : Str))]) (rfl : _ = ("law" : Str) ++ (".<locals>." : Str))) hT fun H8 eN hT => ?_
    intro E1 Q1 hE _
    replace hp1 := eN _ _ hp1 (fun _ z => nomatch z); replace hL := hL.monoN eN; replace hw := hw.monoN eN
    clear eN
    walk_at "go"
    refine w_makeXE (Hs.nil H8) fun x dx H9 S => ?_
    refine ⟨H8, _, x, th, rfl, S, hw, fun H10 S => hE _ _ _ ⟨A_BadWeb, true, false, false, false, false, false, H8, [], rfl, rfl, WB, (S.drop 0).drop 0, fun p H11 S => ?_⟩⟩
    replace hp1 := S.ex _ _ hp1; replace hT := hT.ext S.ex; replace hL := hL.mono S.ex
    walk_at "go"
    have hpw : H11 p = some (.lst ([("web" : Str)].map V.str)) := S.get 0
    clear S
    refine u_lst (Hs.nil H11) (sz_le (by simp)) fun p2 B H12 e _ h2 S => ?_
    have e := e.trans S.ex
    replace h2 := S.ex _ _ h2
    replace hp1 := e _ _ hp1; replace hT := hT.ext e; replace hL := hL.mono e; replace hpw := e _ _ hpw
    refine w_neSame (dp_strs hpw) (dp_strs (ws := ["web"]) h2) (n := 2) ⟨by decide +kernel, by decide +kernel⟩ (by decide) ?_
    clear e S h2 hpw hw
    walk_at "go"
    refine iteF ?_
    walk_at "go"
    refine w_makeXE (Hs.nil H12) fun x2 dx2 H13 S => ?_
    refine ⟨H12, [], x2, dx2, q, rs, rfl, S, hL, hv, fun B4 H14 e4 S5 hWA => ⟨rfl, ?_⟩⟩
    have e := e4.trans S5.ex
    replace hWA := hWA.mono S5.ex
    replace hp1 := e _ _ hp1; replace hT := hT.ext e; replace hL := hL.mono e
    clear S S5 e4 e
    obtain ⟨qs, hqs, hQR⟩ := id hL
    have hql := hQR.length
    have hle := hv.le
    have hpos := hv.pos
    walk_at "go"
    refine u_lst (Hs.nil H14) (sz_le (by simp)) fun o1 B H15 e _ ho1 S => ?_
    walk_at "go"
    refine w_len (sqL_of (S.ex _ _ (e _ _ hqs))) ?_
    rw [List.length_map, hql]
    walk_at "go"
    refine w_len (sqL_of (S.ex _ _ (e _ _ hqs))) ?_
    rw [List.length_map, hql]
    walk_at "go"
    refine u_tup S (sz_le (by simp)) fun o2 B5 H16 e5 ho2 S => ?_
    walk_at "go"
    refine u_dict S fun o3 B6 H17 e6 ho3 S => ?_
    walk_at "go"
    refine u_lst S (sz_le (by simp)) fun o4 B7 H18 e7 _ ho4 S => ?_
    replace ho1 := e7 _ _ (e6 _ _ (e5 _ _ ho1)); replace ho2 := e7 _ _ (e6 _ _ ho2); replace ho3 := e7 _ _ ho3
    replace e := e.trans (e5.trans (e6.trans e7))
    walk_at "go"
    obtain ⟨odd, ho, hod⟩ : ∃ odd, atI [V.non, .bl true, .str "0", .ref o1, .int (-1), .int (rs.length : Nat), .int ((rs.length : Nat) + num), .ref o2, .ref o3, .bl false] (num / 7 % 10) = some odd ∧ PlD B7 (rs.length : Nat) odd false := by
      have b0 := Int.emod_nonneg (num / 7) (b := 10) (by omega)
      have b1 := Int.emod_lt_of_pos (num / 7) (b := 10) (by omega)
      generalize num / 7 % 10 = d at *
      obtain ⟨i, rfl, hi⟩ : ∃ i : Nat, (i : Int) = d ∧ i < 10 := ⟨d.toNat, by omega, by omega⟩
      match i, hi with
      | 0, _ => exact ⟨_, atI_nat (j := 0) rfl, .oth .non (by decide)⟩
      | 1, _ => exact ⟨_, atI_nat (j := 1) rfl, .oth (.bl true) (by decide)⟩
      | 2, _ => exact ⟨_, atI_nat (j := 2) rfl, .oth (.str _) (by decide)⟩
      | 3, _ => exact ⟨_, atI_nat (j := 3) rfl, .oth (.lst ho1) (by decide)⟩
      | 4, _ => exact ⟨_, atI_nat (j := 4) rfl, pl_no (by omega)⟩
      | 5, _ => exact ⟨_, atI_nat (j := 5) rfl, pl_no (by omega)⟩
      | 6, _ => exact ⟨_, atI_nat (j := 6) rfl, pl_no (by omega)⟩
      | 7, _ => exact ⟨_, atI_nat (j := 7) rfl, .oth (.tup ho2) (by decide)⟩
      | 8, _ => exact ⟨_, atI_nat (j := 8) rfl, .oth (.dK ho3) (by decide)⟩
      | 9, _ => exact ⟨_, atI_nat (j := 9) rfl, .oth (.bl false) (by decide)⟩
      | k + 10, h => omega
    refine w_ixL (sqL_of (S.ex _ _ ho4)) ho ?_
    replace hod := hod.mono S.ex
    replace e := e.trans S.ex
    replace hp1 := e _ _ hp1; replace hT := hT.ext e; replace hL := hL.mono e; replace hWA := hWA.mono e
    clear ho ho1 ho2 ho3 ho4 e e5 e6 e7 S hqs hQR
    walk_at "go"
    refine w_lam (congrArg (fun z : Str => [(Pt, z ++ ("<lambda>" : Str))]) (rfl : _ = ("law" : Str) ++ (".<locals>." : Str))) hT fun H19 eN hT => ?_
    intro E1 Q1 hE _
    replace hp1 := eN _ _ hp1 (fun _ z => nomatch z); replace hL := hL.monoN eN; replace hWA := hWA.monoN eN; replace hod := hod.monoN eN
    clear eN
    walk_at "go"
    obtain ⟨dx3, t3, hx3, _⟩ := id hWA.ex
    refine w_methXE hx3 (look1n (by decide +kernel)) ?_
    walk_at "go"
    refine ⟨x2, rs, odd, false, rfl, hWA, hod, (fun z => nomatch z), fun _ => ⟨hle, hE _ _ _ ⟨A_BadPlace, false, false, true, false, false, false, H19, [], rfl, rfl, WP, Hs.nil H19, fun p3 H20 S => ?_⟩⟩⟩
    have hp3 : H20 p3 = some (.lst ([("place" : Str)].map V.str)) := S.get 0
    replace hp1 := S.ex _ _ hp1; replace hT := hT.ext S.ex; replace hL := hL.mono S.ex; replace hWA := hWA.mono S.ex; replace hod := hod.mono S.ex
    clear S hx3
    walk_at "go"
    refine w_lst (Hs.nil H20) (sz_le (by simp)) fun tl H21 S => ?_
    have htl := S.get 0
    have hBf := S.out 0
    have eB : LamX.ExtN H20 H21 := LamX.ExtN.of S.ex
    replace hT := hT.ext S.ex
    clear S
    walk_at "go"
    refine ⟨tyL (sqL_of htl), ?_⟩
    walk_at "go"
    refine w_lam (congrArg (fun z : Str => [(Pt, z ++ ("<lambda>" : Str))]) (rfl : _ = ("law" : Str) ++ (".<locals>." : Str))) hT fun H22 eN hT => ?_
    intro E1 Q1 hE _
    replace eB := eB.trans eN; replace htl := eN _ _ htl (fun _ z => nomatch z)
    clear eN
    walk_at "go"
    obtain ⟨dx3, t3, hx3, _⟩ := id (hWA.monoN eB).ex
    refine w_methXE hx3 (look1n (by decide +kernel)) ?_
    walk_at "go"
    refine ⟨x2, rs, odd, .int 0, false, _, rfl, hWA.monoN eB, hle, hod.monoN eB, .int 0, by simp, hE _ _ _ ⟨A_BadPlace, false, false, true, false, false, false, H22, [], rfl, rfl, WP, Hs.nil H22, fun p4 H23 S => ?_⟩⟩
    have hp4 : H23 p4 = some (.lst ([("place" : Str)].map V.str)) := S.get 0
    have ne4 : p4 ≠ tl := fun z => by
      have z2 := S.out 0
      rw [z, htl] at z2
      cases z2
    replace eB := eB.trans (LamX.ExtN.of S.ex); replace htl := S.ex _ _ htl; replace hT := hT.ext S.ex
    clear S hx3
    walk_at "go"
    refine w_append ((Hs.nil H23).open_ htl) 0 rfl (len_lt (by simp)) fun H24 S => ?_
    replace eB := (extN_del eB hBf).trans (LamX.ExtN.of S.ex)
    replace hT := (TabS.del hT htl).ext S.ex
    replace hp4 := S.ex _ _ ((del_ne ne4).trans hp4)
    replace htl := S.get 0
    clear S
    walk_at "go"
    refine ⟨tyL (sqL_of htl), ?_⟩
    walk_at "go"
    refine w_lam (congrArg (fun z : Str => [(Pt, z ++ ("<lambda>" : Str))]) (rfl : _ = ("law" : Str) ++ (".<locals>." : Str))) hT fun H25 eN hT => ?_
    intro E1 Q1 hE _
    replace eB := eB.trans eN; replace htl := eN _ _ htl (fun _ z => nomatch z)
    replace hp4 := eN _ _ hp4 (fun _ z => nomatch z)
    clear eN
    walk_at "go"
    obtain ⟨dx3, t3, hx3, _⟩ := id (hWA.monoN eB).ex
    refine w_methXE hx3 (look1n (by decide +kernel)) ?_
    walk_at "go"
    refine ⟨x2, rs, .int 0, odd, _, false, rfl, hWA.monoN eB, hle, .int 0, hod.monoN eB, by simp, hE _ _ _ ⟨A_BadPlace, false, false, true, false, false, false, H25, [], rfl, rfl, WP, Hs.nil H25, fun p5 H26 S => ?_⟩⟩
    have hp5 : H26 p5 = some (.lst ([("place" : Str)].map V.str)) := S.get 0
    have ne5 : p5 ≠ tl := fun z => by
      have z2 := S.out 0
      rw [z, htl] at z2
      cases z2
    replace eB := eB.trans (LamX.ExtN.of S.ex); replace htl := S.ex _ _ htl; replace hT := hT.ext S.ex
    replace hp4 := S.ex _ _ hp4
    clear S hx3
    walk_at "go"
    refine w_append ((Hs.nil H26).open_ htl) 0 rfl (len_lt (by simp)) fun H27 S => ?_
    replace eB := (extN_del eB hBf).trans (LamX.ExtN.of S.ex)
    replace hT := (TabS.del hT htl).ext S.ex
    replace hp5 := S.ex _ _ ((del_ne ne5).trans hp5)
    replace hp4 := S.ex _ _ ((del_ne ne4).trans hp4)
    replace htl := S.get 0
    clear S
    walk_at "go"
    refine u_lst (Hs.nil H27) (sz_le (by simp)) fun z1 B H28 e _ hz1 S => ?_
    walk_at "go"
    refine u_lst S (sz_le (by simp)) fun z2 B2 H29 e2 _ hz2 S => ?_
    walk_at "go"
    refine u_rep S hz2 (by decide) (by decide) (sz_le (by simp)) fun z3 B3 H30 e3 hz3 S => ?_
    replace hz1 := S.ex _ _ (e3 _ _ (e2 _ _ hz1))
    replace hz3 : H30 z3 = some (.lst [.ref z1, .ref z1, .ref z1]) := S.ex _ _ hz3
    replace e := e.trans (e2.trans (e3.trans S.ex))
    replace eB := eB.trans (LamX.ExtN.of e); replace hT := hT.ext e
    replace htl : H30 tl = some (.lst [.ref p3, .ref p4, .ref p5]) := e _ _ htl
    replace hp4 := e _ _ hp4; replace hp5 := e _ _ hp5
    replace hp3 := eB _ _ hp3 (fun _ z => nomatch z)
    replace hz1 : H30 z1 = some (.lst ([("place" : Str)].map V.str)) := hz1
    refine w_neSame (d := .list [.list ([("place" : Str)].map .str), .list ([("place" : Str)].map .str), .list ([("place" : Str)].map .str)]) (n := 3) (.lst (sqL_of htl) (.cons (dp_strs hp3) (.cons (dp_strs hp4) (.cons (dp_strs hp5) .nil))))
      (.lst (sqL_of hz3) (.cons (dp_strs hz1) (.cons (dp_strs hz1) (.cons (dp_strs hz1) .nil)))) ⟨by decide +kernel, by decide +kernel⟩ (by decide) ?_
    clear e e2 e3 S hz1 hz2 hz3 htl hp3 hp4 hp5
    replace hp1 := eB _ _ hp1 (fun _ z => nomatch z); replace hL := hL.monoN eB; replace hWA := hWA.monoN eB
    clear eB hod
    walk_at "go"
    refine iteF ?_
    walk_at "go"
    obtain ⟨dx3, t3, hx3, _⟩ := id hWA.ex
    refine w_methXE hx3 (look1n (by decide +kernel)) ?_
    walk_at "go"
    refine ⟨H30, [], x2, rs, rfl, Hs.nil H30, hWA, hv, fun rp as B4 H31 e S hR _ => ?_⟩
    have e := e.trans (S.drop 0).ex
    replace hp1 := e _ _ hp1; replace hT := hT.ext e; replace hL := hL.mono e
    walk_at "go"
    refine w_neLL ⟨as, S.get 0, hR.mono S.ex⟩ hL ?_
    rw [decide_eq_true rfl]
    walk_at "go"
    refine iteF ?_
    walk_at "go"
    exact ⟨_, _, _, _, _, _, _, _, rfl, hp1, hT⟩
  · rintro σ H2 ⟨v1, v2, v3, v4, v5, v6, v7, v8, rfl, _, _⟩
    walk_at "go"
    exact hQ _
end
end Rw

set_option maxHeartbeats 0
-- MM 8000 LV 8
namespace Rw
open PySem PySem.Spec PyProof.Rows L2
/-! ### the head: facts by names -/
def gD (x : Str) (st : Stmt) : He.DefD := { at_ := (x, none), name := x, qual := x, params := defArgs st, body := defBody st, scope := defScope st }
def mD (c m q : Str) (st : Stmt) : He.DefD := { at_ := (c, some m), name := m, qual := q, params := defArgs st, body := defBody st, scope := defScope st }
def mDd (c m q : Str) (st : Stmt) (d : List He.Dv) : He.DefD := { at_ := (c, some m), name := m, qual := q, params := defArgs st, body := defBody st, scope := defScope st, dfl := d }
def hfn : List He.DefD := [gD "_law_mixed" s_law_mixed, gD "_law_rows" s_law_rows, gD "is_number" s_is_number, gD "_is_row" s_is_row, gD "is_web" s_is_web, gD "_reached" s_reached, gD "_law_spoilt" s_law_spoilt, gD "_law_word" s_law_word, gD "law" s_law, mD "Web" "many" "Web.many" s_Web_many, mD "Web" "check_place" "Web.check_place" s_Web_check_place, mD "Web" "is_rest" "Web.is_rest" s_Web_is_rest, mD "Web" "comes" "Web.comes" s_Web_comes, mD "Web" "rows" "Web.rows" s_Web_rows, mD "Web" "__init__" "Web.__init__" s_Web_init]
def hfa : List He.Fa := [.glo "_law_mixed", .keep "_law_mixed", .glo "_law_rows", .keep "_law_rows", .glo "is_number", .keep "is_number", .glo "_is_row", .keep "_is_row", .glo "is_web", .keep "is_web", .glo "_reached", .keep "_reached", .glo "_law_spoilt", .keep "_law_spoilt", .glo "_law_word", .keep "_law_word", .glo "law", .keep "law", .meth "Web" "many", .meth "Web" "check_place", .meth "Web" "is_rest", .meth "Web" "comes", .meth "Web" "rows", .meth "Web" "__init__", .glo "Web", .mkr "Web", .free "len", .free "range", .free "type", .free "list", .free "tuple", .free "int", .free "all", .free "any", .free "sum", .free "max", .free "zip", .free "enumerate", .free "divmod", .free "ValueError", .free "isinstance", .int "MOST_PLACES" 8, .int "MOST_WAYS" 3, .glo "WalkError", .glo "BadWeb", .glo "BadHands", .glo "BadPlace", .glo "BadCount", .glo "NoStep", .glo "NotEven", .glo "Endless", .cls "Web", .noat "Web" "_ways", .exc "BadWeb", .exc "BadPlace"]
/-- what isinstance is told of an error class -/
def excCB (K : PySem.W.Frag) (D : Addr) : Bool := decide (PySem.W.findIn K (.ref D) "__getattribute__" = some (some (.builtin "BaseException.__getattribute__"))) && (decide (PySem.W.findIn K (.ref D) "__getattr__" = some none) && (decide (PySem.W.subIn K (.ref D) (.type "BaseException") = some true) && (PySem.W.hasDictIn K D && (decide (PySem.W.findIn K (.ref D) "__class__" = some (some (.builtin "object.__class__"))) &&
  (decide (PySem.W.specialIn K (.builtin "object.__class__") "__get__" = some (some (.builtin "getset_descriptor.__get__"))) && (decide (PySem.W.takesIn K (.builtin "object.__class__") = some true) && decide (PySem.W.mroIn K D (.type "object") = some true)))))))
theorem excCB_ok {K : PySem.W.Frag} {D : Addr} (h : excCB K D = true) : ExcC K D := by
  obtain ⟨h1, h⟩ := He.ba h
  obtain ⟨h2, h⟩ := He.ba h
  obtain ⟨h3, h⟩ := He.ba h
  obtain ⟨h4, h⟩ := He.ba h
  obtain ⟨h5, h⟩ := He.ba h
  obtain ⟨h6, h⟩ := He.ba h
  obtain ⟨h7, h8⟩ := He.ba h
  exact ⟨of_decide_eq_true h1, of_decide_eq_true h2, of_decide_eq_true h3, h4, of_decide_eq_true h5, of_decide_eq_true h6, of_decide_eq_true h7, of_decide_eq_true h8⟩
def wordB (K : PySem.W.Frag) (a1 a2 a3 a4 a5 a6 a7 a8 : Addr) (D : Addr) (b1 b2 b3 b4 b5 b6 : Bool) : Bool := excCB K D && (decide (PySem.W.exmOne K (.ref D) (.ref a1) = some true) && (decide (PySem.W.kitOne K (.ref D) (.ref a2) = some b1) && (decide (PySem.W.kitOne K (.ref D) (.ref a3) = some b2) && (decide (PySem.W.kitOne K (.ref D) (.ref a4) = some b3) && (decide (PySem.W.kitOne K (.ref D) (.ref a5) = some b4) &&
  (decide (PySem.W.kitOne K (.ref D) (.ref a6) = some b5) && (decide (PySem.W.kitOne K (.ref D) (.ref a7) = some b6) && (decide (PySem.W.kitOne K (.ref D) (.type "ValueError") = some true) && decide (PySem.W.kitOne K (.ref D) (.ref a8) = some false)))))))))
theorem wordB_ok {K : PySem.W.Frag} {a1 a2 a3 a4 a5 a6 a7 a8 D : Addr} {b1 b2 b3 b4 b5 b6 : Bool} (h : wordB K a1 a2 a3 a4 a5 a6 a7 a8 D b1 b2 b3 b4 b5 b6 = true) : WordOf K a1 a2 a3 a4 a5 a6 a7 a8 D b1 b2 b3 b4 b5 b6 := by
  obtain ⟨h1, h⟩ := He.ba h
  obtain ⟨h2, h⟩ := He.ba h
  obtain ⟨h3, h⟩ := He.ba h
  obtain ⟨h4, h⟩ := He.ba h
  obtain ⟨h5, h⟩ := He.ba h
  obtain ⟨h6, h⟩ := He.ba h
  obtain ⟨h7, h⟩ := He.ba h
  obtain ⟨h8, h⟩ := He.ba h
  obtain ⟨h9, h10⟩ := He.ba h
  exact ⟨excCB_ok h1, of_decide_eq_true h2, of_decide_eq_true h3, of_decide_eq_true h4, of_decide_eq_true h5, of_decide_eq_true h6, of_decide_eq_true h7, of_decide_eq_true h8, of_decide_eq_true h9, of_decide_eq_true h10⟩
/-- the word of one of the classes -/
def hw (K : PySem.W.Frag) (x : Str) (b1 b2 b3 b4 b5 b6 : Bool) : Bool := wordB K (He.ga K "WalkError") (He.ga K "BadWeb") (He.ga K "BadHands") (He.ga K "BadPlace") (He.ga K "BadCount") (He.ga K "NoStep") (He.ga K "NotEven") (He.ga K "Endless") (He.ga K x) b1 b2 b3 b4 b5 b6
section
variable {K : PySem.W.Frag} {h : Heap} {mg : Str → Option Value}
theorem funD_fun {x q : Str} {st : Stmt} {f : Addr} {fd : FuncData} (F : FunD K x q (defArgs st) (defBody st) (defScope st) [] [] f fd) : Fun K x q st f fd := by
  obtain ⟨oc, od, dV, kV, doc, pm, an, cdv, ct, osl, e, lk, cd, dv, _⟩ := F.ex
  rcases dv with ⟨_, rfl⟩ | ⟨z, _⟩
  · exact ⟨⟨oc, od, kV, doc, pm, an, cdv, ct, osl, e, lk, cd⟩, F.kp⟩
  · exact absurd rfl z
theorem glo_by (X : K.In h) (G : h.Ns mainGlobals mg) (c : He.SaysD hfa hfn K) (i j l : Nat) {x : Str} {st : Stmt} (e1 : hfn[i]? = some (gD x st) := by rfl) (e2 : hfa[j]? = some (.glo x) := by rfl) (e3 : hfa[l]? = some (.keep x) := by rfl) : Glo K mg x st := by
  obtain ⟨fd, F⟩ := c.def_ i e1
  exact ⟨⟨_, _, He.glo_ok X G (c.fact j e2), funD_fun F⟩⟩
theorem meth_by (c : He.SaysD hfa hfn K) (i j : Nat) {cl m q : Str} {st : Stmt} (e1 : hfn[i]? = some (mD cl m q st) := by rfl) (e2 : hfa[j]? = some (.meth cl m) := by rfl) : GloM K (He.ga K cl) m q st := by
  obtain ⟨fd, F⟩ := c.def_ i e1
  exact ⟨⟨_, _, He.meth_ok (c.fact j e2), funD_fun F⟩⟩
theorem init_by (X : K.In h) (G : h.Ns mainGlobals mg) (c : He.SaysD hfa hfn K) (i j l n : Nat) {cl q : Str} {st : Stmt} (e1 : hfn[i]? = some (mD cl "__init__" q st) := by rfl) (e2 : hfa[j]? = some (.meth cl "__init__") := by rfl) (e3 : hfa[l]? = some (.glo cl) := by rfl) (e4 : hfa[n]? = some (.mkr cl) := by rfl) : GloC K mg (He.ga K cl) cl q st := by
  obtain ⟨fd, F⟩ := c.def_ i e1
  exact ⟨⟨_, _, He.glo_ok X G (c.fact l e3), He.mkr_ok (c.fact n e4), funD_fun F⟩⟩
theorem methD_by (c : He.SaysD hfa hfn K) (i j : Nat) {cl m q : Str} {st : Stmt} {d : List He.Dv} (e1 : hfn[i]? = some (mDd cl m q st d) := by rfl) (e2 : hfa[j]? = some (.meth cl m) := by rfl) : GloMD K (He.ga K cl) m q st (d.map (He.Dv.v K)) := by
  obtain ⟨fd, F⟩ := c.def_ i e1
  exact ⟨⟨_, _, He.meth_ok (c.fact j e2), F⟩⟩
theorem initD_by (X : K.In h) (G : h.Ns mainGlobals mg) (c : He.SaysD hfa hfn K) (i j l n : Nat) {cl q : Str} {st : Stmt} {d : List He.Dv} (e1 : hfn[i]? = some (mDd cl "__init__" q st d) := by rfl) (e2 : hfa[j]? = some (.meth cl "__init__") := by rfl) (e3 : hfa[l]? = some (.glo cl) := by rfl) (e4 : hfa[n]? = some (.mkr cl) := by rfl) : GloCD K mg (He.ga K cl) cl q st (d.map (He.Dv.v K)) := by
  obtain ⟨fd, F⟩ := c.def_ i e1
  exact ⟨⟨_, _, He.glo_ok X G (c.fact l e3), He.mkr_ok (c.fact n e4), F⟩⟩
theorem err_by (X : K.In h) (G : h.Ns mainGlobals mg) (c : He.SaysD hfa hfn K) (j l : Nat) {x : Str} (e1 : hfa[j]? = some (.glo x) := by rfl) (e2 : hfa[l]? = some (.exc x) := by rfl) : ErrT K mg x (He.ga K x) := by
  have q := He.exc_ok (c.fact l e2)
  exact ⟨He.glo_ok X G (c.fact j e1), q.1, q.2.1, q.2.2.1, q.2.2.2⟩
end

def hex (K : PySem.W.Frag) : Bool := hw K "BadWeb" true false false false false false && hw K "BadPlace" false false true false false false
theorem the_law {P : Program} {w : World} {K : PySem.W.Frag} {h : Heap} {mg : Str → Option Value} (X : K.In h) (G : h.Ns mainGlobals mg) (c : He.SaysD hfa hfn K) (cx : hex K = true) {base : Heap} {f cc Pt : Addr} {fd : FuncData} (F : Fun K "law" "law" s_law f fd) (hcode : fd.code = .ref cc) (TB : LamX.TabB base mg cc Pt) : FnOk P w K mg base CX0 8 f fd ["_law_script"] (spLawT K Pt) := by
  obtain ⟨w1, w2⟩ := He.ba cx
  have TB0 : Bare mg := ⟨(He.free_ok X G (c.fact 26 (f := .free "len") rfl)), (He.free_ok X G (c.fact 27 (f := .free "range") rfl))⟩
  have TN : Names mg := ⟨(He.free_ok X G (c.fact 26 (f := .free "len") rfl)), (He.free_ok X G (c.fact 27 (f := .free "range") rfl)), (He.free_ok X G (c.fact 28 (f := .free "type") rfl)), (He.free_ok X G (c.fact 29 (f := .free "list") rfl)), (He.free_ok X G (c.fact 30 (f := .free "tuple") rfl)), (He.free_ok X G (c.fact 31 (f := .free "int") rfl)), (He.free_ok X G (c.fact 32 (f := .free "all") rfl)), (He.free_ok X G (c.fact 33 (f := .free "any") rfl)), (He.free_ok X G (c.fact 34 (f := .free "sum") rfl)), (He.free_ok X G (c.fact 35 (f := .free "max") rfl)), (He.free_ok X G (c.fact 36 (f := .free "zip") rfl)), (He.free_ok X G (c.fact 37 (f := .free "enumerate") rfl)), (He.free_ok X G (c.fact 38 (f := .free "divmod") rfl)), (He.int_ok X G (c.fact 41 (f := .int "MOST_PLACES" 8) rfl)), (He.int_ok X G (c.fact 42 (f := .int "MOST_WAYS" 3) rfl))⟩
  have TL : NamesL mg := ⟨(He.free_ok X G (c.fact 37 (f := .free "enumerate") rfl)), (He.free_ok X G (c.fact 26 (f := .free "len") rfl))⟩
  have TE : ErrNs mg (He.ga K "WalkError") (He.ga K "BadWeb") (He.ga K "BadHands") (He.ga K "BadPlace") (He.ga K "BadCount") (He.ga K "NoStep") (He.ga K "NotEven") (He.ga K "Endless") := ⟨He.glo_ok X G (c.fact 43 (f := .glo "WalkError") rfl), He.glo_ok X G (c.fact 44 (f := .glo "BadWeb") rfl), He.glo_ok X G (c.fact 45 (f := .glo "BadHands") rfl), He.glo_ok X G (c.fact 46 (f := .glo "BadPlace") rfl), He.glo_ok X G (c.fact 47 (f := .glo "BadCount") rfl), He.glo_ok X G (c.fact 48 (f := .glo "NoStep") rfl), He.glo_ok X G (c.fact 49 (f := .glo "NotEven") rfl), He.glo_ok X G (c.fact 50 (f := .glo "Endless") rfl), (He.free_ok X G (c.fact 39 (f := .free "ValueError") rfl)), (He.free_ok X G (c.fact 40 (f := .free "isinstance") rfl))⟩
  have TC : Cls K (He.ga K "Web") := He.cls_ok (c.fact 51 (f := .cls "Web") rfl)
  have TW_ : WebT K mg (He.ga K "Web") := ⟨TC, He.noat_ok (c.fact 52 (f := .noat "Web" "_ways") rfl)⟩
  have q1 := He.exc_ok (c.fact 53 (f := .exc "BadWeb") rfl)
  have q2 := He.exc_ok (c.fact 54 (f := .exc "BadPlace") rfl)
  have RW : ErrT K mg "BadWeb" (He.ga K "BadWeb") := ⟨He.glo_ok X G (c.fact 44 (f := .glo "BadWeb") rfl), q1.1, q1.2.1, q1.2.2.1, q1.2.2.2⟩
  have RP : ErrT K mg "BadPlace" (He.ga K "BadPlace") := ⟨He.glo_ok X G (c.fact 46 (f := .glo "BadPlace") rfl), q2.1, q2.2.1, q2.2.2.1, q2.2.2.2⟩
  have c1 : Cal P w K mg base _ _ _ _ := ok_mixed TB0 (glo_by X G c 0 0 1)
  have c2 := ok_rows TB0 (glo_by X G c 1 2 3) c1
  have c3 : Cal P w K mg base _ _ _ _ := ok_num TN (glo_by X G c 2 4 5)
  have c4 := ok_is_rowD TN (glo_by X G c 3 6 7) c3
  have d5 := ok_is_webD TN (glo_by X G c 4 8 9) c4
  have c6 : Cal P w K mg base _ _ _ _ := ok_reached TN (glo_by X G c 5 10 11)
  have m1 : CalM P w K mg base _ _ _ _ _ := ok_many TN TW_ (meth_by c 9 18)
  have m2 := ok_checkX TN TC RP (meth_by c 10 19) c3 m1
  have m3 := ok_is_restX TN TW_ TC (meth_by c 11 20) m2
  have m4 := ok_comesX TN TW_ TC (meth_by c 12 21) m2 (c6.mono (by decide))
  have m5 : CalM P w K mg base _ _ _ _ _ := ok_rowsM TN TW_ (meth_by c 13 22)
  have i1 := ok_init TN TW_ (init_by X G c 14 23 24 25) d5
  have i2 := ok_initX TN TW_ RW (init_by X G c 14 23 24 25) d5
  have l1 : Cal P w K mg base _ _ _ _ := ok_spoilt TN (glo_by X G c 6 12 13)
  exact ok_law TL TN TE (glo_by X G c 7 14 15) TC F hcode TB (c1.mono (by decide)) (c2.mono (by decide)) (l1.mono (by decide)) (d5.mono (by decide)) (i1.mono (by decide)) (m5.mono (by decide)) (wordB_ok w1) (wordB_ok w2) i2 (m3.mono (by decide)) (m4.mono (by decide))
abbrev theRow : PySem.W.OpenRow := PySem.W.OpenLaw.row PySem.Challenge.rw_rotorwalk_k03_webs_refused
def htf : List He.Defn := [("law", none)]
abbrev theHook : PySem.W.Hook := He.hookX 5 hfa hfn [] htf hex
def seen (s : PySem.W.SharedT) : He.AlX := He.obsX 5 hfa hfn [] htf hex (HandSHeadRun.getT s)
theorem seen_eq (s : PySem.W.SharedT) : seen s = theHook.obs s.abs := He.obsX_eq (HandSHeadRun.getT_eq s)
def others : List Str := ["_wall", "WalkError", "BadWeb", "BadHands", "BadPlace", "BadCount", "NoStep", "NotEven", "Endless", "is_number", "MOST_PLACES", "MOST_WAYS", "is_web", "_is_row", "_reached", "Web", "_law_mixed", "_law_numbers", "_law_rows", "_law_hands", "_law_word", "_law_spoilt"]
theorem run (w : World) : HandSHeadRun.RunEq theRow (PySem.W.view theRow.prog [26]) theHook seen 8000 others w := by
  intro os
  kernel_rfl
theorem facts {l : PySem.W.OpenLaw} {w : World} {K : PySem.W.Frag} {h : Heap} {mg : Str → Option Value} {f : Addr} (X : K.In h) (G : h.Ns mainGlobals mg) (hfa_ : mg ("law" : Str) = some (.ref f)) (cX : He.SaysX hfa hfn [] htf hex w h K) : LamX.LawAtS l w K CX0 8 63 "_law_script" mg f h := by
  have c : He.SaysD hfa hfn K := congrArg (fun z : He.AlT => z.1) cX.t
  have GL : Glo K mg "law" s_law := (glo_by X G c 8 16 17)
  obtain ⟨f0, fd, h1, F⟩ := GL.ex
  have e := hfa_.symm.trans h1
  cases e
  have hm : (("law", none) : He.Defn) ∈ htf := List.mem_singleton.mpr rfl
  obtain ⟨oc, od, kV, doc, pm, an, cdv, ct, osl, efd, lk, cd⟩ := id F.ex
  obtain ⟨c0, hc0⟩ := He.codeIn_ref cd
  have hcode : fd.code = .ref c0 := by rw [efd]; exact hc0
  have fadr : He.fAd K ("law", none) = f := by
    have z := He.glo_ok X G (c.fact 16 (f := .glo "law") rfl)
    rw [hfa_] at z
    exact (Value.ref.inj (Option.some.inj z)).symm
  have hc1 : (He.cT K ("law", none)).1 = c0 := He.codeOf_eq (K := K) (p := ("law", none)) (by rw [fadr]; exact lk) hcode
  refine ⟨fd, [He.cT K ("law", none)], spLawT K (He.cT K ("law", none)).2, fun p hp => ?_, fun p hp => ?_, fun p hp => ?_, fun s v => ?_, fun H a ns hl _ hP hS => ?_, fun base _ _ hTB => ?_⟩
  · rw [List.mem_singleton.mp hp]; exact cX.empty _ hm
  · rw [List.mem_singleton.mp hp]; exact cX.out _ hm
  · rw [List.mem_singleton.mp hp]; exact PySem.W.codeHd_of_K X (cX.hd _ hm)
  · subst efd
    exact .of_eq rfl
  · exact ⟨a, ns, rfl, hP _ (List.mem_singleton.mpr rfl), hS, hl, fun _ => rfl⟩
  · exact the_law X G c cX.more F (hcode.trans (congrArg Value.ref hc1.symm)) (hTB _ (List.mem_singleton.mpr rfl))
end Rw
open PySem PySem.W PySem.Calls PyProof.Rows
theorem PySem.Challenge.cw_rotorwalk_k03_webs_refused_holds : PySem.Challenge.rw_rotorwalk_k03_webs_refused.Holds := by
  w_on; o_law
  refine HandSHeadRun.head_any (r := OpenLaw.row PySem.Challenge.rw_rotorwalk_k03_webs_refused) (q := view (OpenLaw.row PySem.Challenge.rw_rotorwalk_k03_webs_refused).prog [26]) (H := Rw.theHook) (ob := Rw.seen) (M := 8000) (loose := Rw.others) (d := HandSHeadRun.topDef (OpenLaw.row PySem.Challenge.rw_rotorwalk_k03_webs_refused).prog 26) (kwd := []) Rw.seen_eq
    (by kernel_rfl) (fun s => by kernel_rfl) Rw.run (by kernel_rfl) (by kernel_rfl) (by kernel_rfl) (by rfl) (by first | assumption | decide +kernel) (by decide +kernel) ⟨rfl, rfl, rfl, rfl, rfl, by decide +kernel⟩ ?hw ?hc
  case hw => w_witness2
  case hc =>
    refine LamX.walk_ofTsE (l := PySem.Challenge.rw_rotorwalk_k03_webs_refused) (n := 63) (k := 8) (x := "_law_script") (CX := fun _ => L2.CX0) rfl (by decide) (by kernel_rfl) ⟨rfl, by decide, by decide⟩ ?F (fun _ _ _ _ _ z => z)
    intro w mg fa h Y G hmg0
    obtain ⟨K, KX, c⟩ := Y
    have hmg : mg ("law" : PySem.Str) = some (.ref fa) := by
      have e : (HandSHeadRun.topDef (OpenLaw.row PySem.Challenge.rw_rotorwalk_k03_webs_refused).prog 26).name = ("law" : PySem.Str) := by kernel_rfl
      rw [← e]
      exact hmg0
    exact ⟨K, KX, Rw.facts KX G hmg c⟩
