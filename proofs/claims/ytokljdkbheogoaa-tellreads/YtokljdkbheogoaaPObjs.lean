/- Package tell: objects: what a reply of 43 has behind its head. -/
import Derived.Test.YtokljdkbheogoaaObjs
import Derived.Test.YtokljdkbheogoaaStep
import Derived.Deep.RegionLaw
namespace Go.Proofs.Ytokljdkbheogoaa
open Go.ChangeShapes Go.WideShapes Go.ChangeAt Go.RowKit
set_option linter.unusedVariables false
set_option linter.unusedSimpArgs false

/-- So many objects, out of bytes that have no more; or none. -/
def parseO : Nat → List Int → Option (List Ob)
  | 0, zs => if zs.length = 0 then some [] else none
  | n + 1, zs => if zs.length < 2 then none else if zs.length < 2 + (zs.getD 1 0).toNat then none else (parseO n (zs.drop (2 + (zs.getD 1 0).toNat))).map fun os => (zs.getD 0 0, strOfNums ((zs.drop 2).take (zs.getD 1 0).toNat)) :: os

theorem parseO_length : ∀ (n : Nat) (zs : List Int) (os : List Ob), parseO n zs = some os → os.length = n := by
  intro n
  induction n with
  | zero =>
    intro zs os h
    unfold parseO at h
    split at h
    · injection h with h; subst h; rfl
    · cases h
  | succ n ih =>
    intro zs os h
    unfold parseO at h
    split at h
    · cases h
    · split at h
      · cases h
      · rw [Option.map_eq_some_iff] at h
        obtain ⟨os2, h2, rfl⟩ := h
        simp [ih _ _ h2]

theorem step_append_obs {w : World} {ops : Array Oper} {o : Oper} {a : Act} {K : Act → World → Prop} {Q : Exit → Act → World → Prop} {E : Prop} (s x : Operand)
    (base : Nat) (v : Value) (n : Nat) (xs : List Ob) (m : Nat) (os : List Ob) (nm : Nat) (ys : List Ob) (hnm : n + m = nm) (hys : xs ++ os = ys) (hm : n + m ≤ 1000000)
    (ho : o.guard = none ∧ o.op = .call { callee := .builtin .append, args := #[s, x], argTypes := #[29, 29] } ∧ a.eval s = v)
    (hown : w.ownsRow base 72 2 v n (obs xs)) (hr : ∃ A c, a.eval x = .slice A m c ∧ OL w w.heap.size A m os) (hbase : base ≤ w.heap.size)
    (h : ∀ A' c' w', w'.ownsRow base 72 2 (.slice A' nm c') nm (obs ys) → w.grownBy w' v.ownBlock → K (a.put o.dst (.slice A' nm c')) w') :
    if Region.wanted o (yielded ops a.tmps) = true then Oper.wp Try.prog o a w K Q else E := by
  subst hnm hys
  obtain ⟨hgd, hop, hs⟩ := ho
  obtain ⟨A, c, hx, hr⟩ := hr
  have hw : Region.wanted o (yielded ops a.tmps) = true := by simp [Region.wanted, hgd]
  rw [if_pos hw]
  obtain ⟨v', w', hrun, h2, h3⟩ := run_append_obs w base o.type v n xs hown w.heap.size A m c os hr hm hbase
  obtain ⟨A', c', rfl⟩ := own2_slice h2
  unfold Oper.wp execOp
  simp only [hop, resolve, invoke, builtin, Sem.run_bind, Sem.run_pure, Result.andThen_ok, List.map_toArray, List.map_cons, List.map_nil, hs, hx, hrun]
  exact h A' c' w' h2 h3

theorem rowI_drop {w : World} {k : IntKind} {B b off q : Nat} {zs : List Int} (h : Row k w B (some ⟨b, off, none⟩) q zs) (m : Nat) (hm : m ≤ q) : Row k w B (some ⟨b, off + m, none⟩) (q - m) (zs.drop m) := by
  refine ⟨by rw [List.length_drop, h.1], fun h0 => ?_⟩
  obtain ⟨b', off', e, hlt, hc⟩ := h.2 (by omega)
  injection e with e
  injection e with e1 e2
  subst e1 e2
  refine ⟨b, off + m, rfl, hlt, fun j hj => ?_⟩
  rw [Nat.add_assoc, hc (m + j) (by omega)]
  simp [List.getD_eq_getElem?_getD, List.getElem?_drop]
theorem rowI_take {w : World} {k : IntKind} {B n : Nat} {A : Option Addr} {zs : List Int} (h : Row k w B A n zs) (m : Nat) (hm : m ≤ n) : Row k w B A m (zs.take m) := by
  have e : n = m + (n - m) := by omega
  rw [e, ← List.take_append_drop m zs] at h
  exact h.front (by rw [List.length_take]; have := h.1; rw [List.take_append_drop] at this; omega)

/-- What objects leaves. -/
def ObjsGot (N : Nat) (zs : List Int) (w : World) (e : Ending) (w' : World) : Prop :=
  ∃ OA ol oc ok, e = .returned (.tuple #[.slice OA ol oc, .bool ok]) ∧ Below w.heap.size w w' ∧ (∀ os, parseO N zs = some os → ok = true ∧ ol = os.length ∧ w'.ownsRow w.heap.size 72 2 (.slice OA ol oc) ol (obs os)) ∧ (parseO N zs = none → ok = false)

set_option maxRecDepth 100000 in
set_option maxHeartbeats 4000000 in
theorem pobjs_any (A : Option Addr) (n c : Nat) (zs : List Int) (N : Nat) (w : World) (hr : Row .u8 w w.heap.size A n zs) (hx : Bytes8 zs) (hn : n ≤ 1000) (hc : n ≤ c) (hN : N ≤ 255) :
    Calls Try.prog 99 #[.slice A n c, .int .i64 (N : Int)] w (ObjsGot N zs w) := by
  have HR := Lib.hid hr
  have HX := Lib.hid hx
  clear hr hx
  go_enter Try.func99, Try.ntmps99
  go_wp2
  go_loopw [0, 6, 9] (fun b l i wr => ∃ (k m d : Nat) (B OA : Option Addr) (oc : Nat), k ≤ N ∧ m ≤ n ∧ m ≤ d ∧ b = .slice B m d ∧ i = .int .i64 (k : Int) ∧ l = .slice OA k oc ∧
    Hid (∃ ys os, Row .u8 wr w.heap.size B m ys ∧ Bytes8 ys ∧ wr.ownsRow w.heap.size 72 2 (.slice OA k oc) k (obs os) ∧ os.length = k ∧ parseO N zs = (parseO (N - k) ys).map (os ++ ·) ∧ Below w.heap.size w wr)) (fun _ _ i _ => N - (intOf i).toNat)
  case atStart => exact ⟨0, n, c, A, none, 0, by omega, Nat.le_refl _, hc, rfl, rfl, rfl, zs, [], HR.out, HX.out, own2_none _ _ _, rfl, by simp, Below.refl _ _⟩
  case round =>
    obtain ⟨k, m, d, B, OA, oc, hk, hm, hmd, rfl, rfl, rfl, HI⟩ := hrel
    obtain ⟨ys, os, hrow, hy8, hown, hol, heq, hbel⟩ := HI.out
    have hyl := hrow.1
    by_cases hlt : k < N
    · have hi : (k : Int) < (N : Int) := by omega
      obtain ⟨R, hR⟩ : ∃ R, N - k = R + 1 := ⟨N - k - 1, by omega⟩
      rw [hR] at heq
      by_cases h2 : m < 2
      · have h2i : (m : Int) < 2 := by omega
        have HF : Hid (parseO N zs = none) := by
          show _ = _
          rw [heq]
          unfold parseO
          rw [if_pos (by omega)]
          rfl
        have HB := Lib.hid hbel
        clear hrow hy8 hown hol heq hbel hyl hR HI
        go_wp2
        go_ret2
        exact ⟨none, 0, 0, false, rfl, HB.out, fun os h => (by rw [HF.out] at h; cases h), fun _ => rfl⟩
      · have h2i : ¬ (m : Int) < 2 := by omega
        obtain ⟨bA, offA, hBA, hbA, hcell⟩ := hrow.2 (by omega)
        subst hBA
        have hc0 := hcell 0 (by omega)
        have hc1 := hcell 1 (by omega)
        have e1 := hy8.at_ 1
        have e0 := hy8.at_ 0
        obtain ⟨L, hL⟩ : ∃ L : Nat, ys.getD 1 0 = (L : Int) := Int.eq_ofNat_of_zero_le (by rw [List.getD_eq_getElem?_getD]; exact e1.1)
        obtain ⟨x, hx0⟩ : ∃ x, ys.getD 0 0 = x := ⟨_, rfl⟩
        rw [List.getD_eq_getElem?_getD] at hL hx0
        rw [List.getD_eq_getElem?_getD] at hc0 hc1
        rw [hL] at hc1 e1
        rw [hx0] at hc0 e0
        rw [Nat.add_zero] at hc0
        have hL2 : L ≤ 255 := by omega
        have hm2 : (2 : Int) ≤ (m : Int) := by omega
        by_cases h3 : m < 2 + L
        · have h3i : (m : Int) < 2 + (L : Int) := by omega
          have HF : Hid (parseO N zs = none) := by
            show _ = _
            rw [heq]
            unfold parseO
            rw [if_neg (by omega), List.getD_eq_getElem?_getD, hL, if_pos (by simp; omega)]
            rfl
          have HB := Lib.hid hbel
          clear hrow hy8 hown hol heq hbel hyl hR HI hcell hL hx0
          go_wp2
          go_ret2
          exact ⟨none, 0, 0, false, rfl, HB.out, fun os h => (by rw [HF.out] at h; cases h), fun _ => rfl⟩
        · have h3i : ¬ (m : Int) < 2 + (L : Int) := by omega
          have hLd : 2 + (L : Int) ≤ (d : Int) := by omega
          have HST : Hid ((convert 22 9 (.slice (some ⟨bA, offA + 2, none⟩) L (d - 2))).run Try.prog wr = .ok (.string (strOfNums ((ys.drop 2).take L))) wr) := conv_row _ _ _ _ _ ((rowI_take (rowI_drop hrow 2 (by omega)) L (by omega)).more hbel.size)
          have HEQ : Hid (parseO N zs = (parseO R (ys.drop (2 + L))).map ((os ++ [(x, strOfNums ((ys.drop 2).take L))]) ++ ·)) := by
            show _ = _
            rw [heq]
            conv => lhs; unfold parseO
            rw [if_neg (by omega), List.getD_eq_getElem?_getD, hL, if_neg (by simp; omega), List.getD_eq_getElem?_getD, hx0, Option.map_map]
            simp only [Int.toNat_natCast]
            congr 1
            funext zz
            simp
          obtain ⟨E, hE⟩ : ∃ E, 2 + L = E := ⟨_, rfl⟩
          obtain ⟨S, hS⟩ : ∃ S, strOfNums ((ys.drop 2).take L) = S := ⟨_, rfl⟩
          rw [hE, hS] at HEQ
          have hEi : 2 + (L : Int) = (E : Int) := by omega
          have hL2' : L = E - 2 := by omega
          have hst : ∀ (B : Option Addr) (dd : Nat), Row .u8 wr wr.heap.size B L ((ys.drop 2).take L) → (convert 22 9 (.slice B (E - 2) dd)).run Try.prog wr = .ok (.string S) wr := by
            intro B dd h
            rw [← hL2', ← hS]
            exact conv_row _ _ _ _ _ h
          have hst' : ∀ (B : Option Addr) (dd : Nat), Row .u8 wr wr.heap.size B L ((ys.drop 2).take L) → (convert 22 9 (.slice B (E - 2) dd)).run Try.prog wr.drew = .ok (.string S) wr.drew := by
            intro B dd h
            rw [← hL2', ← hS]
            exact conv_row _ _ _ _ wr.drew h
          have hrow2 : Row .u8 wr wr.heap.size (some ⟨bA, offA + 2, none⟩) L ((ys.drop 2).take L) := (rowI_take (rowI_drop hrow 2 (by omega)) L (by omega)).more hbel.size
          have OA1 : Hid ((wr.alloc (.cells #[.int .i64 x, .string S] 72)).drew.ownsRow w.heap.size 72 2 (.slice OA k oc) k (obs os)) := own2_keep hown ((Below.refl _ _).alloc (Nat.le_refl _) _).drew
          have RA1 : Hid (OL (wr.alloc (.cells #[.int .i64 x, .string S] 72)).drew (wr.alloc (.cells #[.int .i64 x, .string S] 72)).drew.heap.size (some ⟨wr.heap.size, 0, none⟩) 1 [(x, S)]) := built_row wr _ [.int .i64 x, .string S] _ (Below.refl _ _).drew
          have KA1 : Hid (Below w.heap.size w (wr.alloc (.cells #[.int .i64 x, .string S] 72)).drew) := (hbel.alloc hbel.size _).drew
          have HD8 : Hid (Bytes8 (ys.drop E)) := fun z hz => hy8 z (List.mem_of_mem_drop hz)
          have HOL := Lib.hid hol
          have HRR := Lib.hid hR
          have hm0 : 0 < m := by omega
          have wx : IntKind.i64.wrap x = x := IntWalk.i64_in _ (by omega)
          have KW1 : Hid (Below w.heap.size wr (wr.alloc (.cells #[.int .i64 x, .string S] 72)).drew) := ((Below.refl _ _).alloc hbel.size _).drew
          have hEm : E ≤ m := by omega
          have hE2 : (2 : Int) ≤ (E : Int) := by omega
          have hEd : (E : Int) ≤ (d : Int) := by omega
          have h3e : ¬ (m : Int) < (E : Int) := by omega
          have hme : m ≤ 1000 := by omega
          have hkN : k ≤ 255 := by omega
          by_cases hde : d = E
          · have hmd0 : m - E = 0 := by omega
            have HR0 : Hid (Row .u8 wr w.heap.size (some ⟨bA, offA, none⟩) 0 (ys.drop E)) := by
              have h : ys.drop E = [] := List.drop_eq_nil_of_le (by omega)
              show Row _ _ _ _ _ _
              rw [h]
              exact Row.nil _ _ _ _
            by_cases hd2 : d = 2
            · obtain rfl : L = 0 := by omega
              obtain rfl : E = 2 := by omega
              have hst1 := hst (some ⟨bA, offA, none⟩) 0 (by rw [List.take_zero]; exact Row.nil _ _ _ _)
              have hst2 := hst' (some ⟨bA, offA, none⟩) 0 (by rw [List.take_zero]; exact Row.nil _ _ _ _)
              subst hd2
              have HR1 : Hid (∀ W, Below w.heap.size wr W → Row .u8 W w.heap.size (some ⟨bA, offA, none⟩) 0 (ys.drop 2)) := fun W hW => HR0.out.below hW
              clear hmd0 hde
              clear hst hst' hrow2 hrow hy8 hown hol heq hbel hyl hR HI hcell hL hx0 hE hS hL2' HST e0 e1
              go_wp2
              go_region_law (first
                | (refine step_append_obs (.tmp 23) (.tmp 33) w.heap.size (.slice OA k oc) k os 1 [(x, S)] (k + 1) (os ++ [(x, S)]) rfl rfl (by omega) ⟨rfl, rfl, (by first | rfl | (simp [eval_put_tmp, size_put]; done) | (simp [eval_put_tmp, size_put]; simp [Act.eval]; done) | (simp [Act.eval]; done))⟩ OA1.out ⟨some ⟨wr.heap.size, 0, none⟩, 1, (by first | rfl | (simp [eval_put_tmp, size_put]; done) | (simp [eval_put_tmp, size_put]; simp [Act.eval]; done) | (simp [Act.eval]; done)), RA1.out⟩ KA1.out.size ?_
                   intro A6 c6 w6 hown6 hg6
                   have HO6 := Lib.hid hown6
                   have HBW6 := Lib.hid (below_append2 KW1.out OA1.out hg6 KA1.out.size)
                   have HB6 := Lib.hid (below_append2 KA1.out OA1.out hg6 KA1.out.size)
                   clear hown6 hg6))
              all_goals
                go_wp2
                go_roundw
                case rel =>
                  refine ⟨k + 1, 0, 0, some ⟨bA, offA, none⟩, A6, c6, by omega, by omega, by omega, rfl, by go_num, rfl, ys.drop 2, os ++ [(x, S)], HR1.out _ HBW6.out, HD8.out, HO6.out, by rw [List.length_append, HOL.out]; rfl, ?_, HB6.out⟩
                  rw [show N - (k + 1) = R by have := HRR.out; omega]
                  exact HEQ.out
                case measure => simp [intOf]; omega
            · have hst1 := hst _ (d - 2) hrow2
              have hst2 := hst' _ (d - 2) hrow2
              have HR1 : Hid (∀ W, Below w.heap.size wr W → Row .u8 W w.heap.size (some ⟨bA, offA, none⟩) 0 (ys.drop E)) := fun W hW => HR0.out.below hW
              subst hde
              clear hmd0
              clear hst hst' hrow2 hrow hy8 hown hol heq hbel hyl hR HI hcell hL hx0 hE hS hL2' HST e0 e1
              go_wp2
              go_region_law (first
                | (refine step_append_obs (.tmp 23) (.tmp 33) w.heap.size (.slice OA k oc) k os 1 [(x, S)] (k + 1) (os ++ [(x, S)]) rfl rfl (by omega) ⟨rfl, rfl, (by first | rfl | (simp [eval_put_tmp, size_put]; done) | (simp [eval_put_tmp, size_put]; simp [Act.eval]; done) | (simp [Act.eval]; done))⟩ OA1.out ⟨some ⟨wr.heap.size, 0, none⟩, 1, (by first | rfl | (simp [eval_put_tmp, size_put]; done) | (simp [eval_put_tmp, size_put]; simp [Act.eval]; done) | (simp [Act.eval]; done)), RA1.out⟩ KA1.out.size ?_
                   intro A6 c6 w6 hown6 hg6
                   have HO6 := Lib.hid hown6
                   have HBW6 := Lib.hid (below_append2 KW1.out OA1.out hg6 KA1.out.size)
                   have HB6 := Lib.hid (below_append2 KA1.out OA1.out hg6 KA1.out.size)
                   clear hown6 hg6))
              all_goals
                go_wp2
                go_roundw
                case rel =>
                  refine ⟨k + 1, 0, 0, some ⟨bA, offA, none⟩, A6, c6, by omega, by omega, by omega, rfl, by go_num, rfl, ys.drop d, os ++ [(x, S)], HR1.out _ HBW6.out, HD8.out, HO6.out, by rw [List.length_append, HOL.out]; rfl, ?_, HB6.out⟩
                  rw [show N - (k + 1) = R by have := HRR.out; omega]
                  exact HEQ.out
                case measure => simp [intOf]; omega
          · have hst1 := hst _ (d - 2) hrow2
            have hst2 := hst' _ (d - 2) hrow2
            have hd2 : ¬ d = 2 := by omega
            have HR0 : Hid (Row .u8 wr w.heap.size (some ⟨bA, offA + E, none⟩) (m - E) (ys.drop E)) := rowI_drop hrow E hEm
            have HR1 : Hid (∀ W, Below w.heap.size wr W → Row .u8 W w.heap.size (some ⟨bA, offA + E, none⟩) (m - E) (ys.drop E)) := fun W hW => HR0.out.below hW
            clear hst hst' hrow2 hrow hy8 hown hol heq hbel hyl hR HI hcell hL hx0 hE hS hL2' HST e0 e1
            go_wp2
            go_region_law (first
              | (refine step_append_obs (.tmp 23) (.tmp 33) w.heap.size (.slice OA k oc) k os 1 [(x, S)] (k + 1) (os ++ [(x, S)]) rfl rfl (by omega) ⟨rfl, rfl, (by first | rfl | (simp [eval_put_tmp, size_put]; done) | (simp [eval_put_tmp, size_put]; simp [Act.eval]; done) | (simp [Act.eval]; done))⟩ OA1.out ⟨some ⟨wr.heap.size, 0, none⟩, 1, (by first | rfl | (simp [eval_put_tmp, size_put]; done) | (simp [eval_put_tmp, size_put]; simp [Act.eval]; done) | (simp [Act.eval]; done)), RA1.out⟩ KA1.out.size ?_
                 intro A6 c6 w6 hown6 hg6
                 have HO6 := Lib.hid hown6
                 have HBW6 := Lib.hid (below_append2 KW1.out OA1.out hg6 KA1.out.size)
                 have HB6 := Lib.hid (below_append2 KA1.out OA1.out hg6 KA1.out.size)
                 clear hown6 hg6))
            all_goals
              go_wp2
              go_roundw
              case rel =>
                refine ⟨k + 1, m - E, d - E, some ⟨bA, offA + E, none⟩, A6, c6, by omega, by omega, by omega, rfl, by go_num, rfl, ys.drop E, os ++ [(x, S)], HR1.out _ HBW6.out, HD8.out, HO6.out, by rw [List.length_append, HOL.out]; rfl, ?_, HB6.out⟩
                rw [show N - (k + 1) = R by have := HRR.out; omega]
                exact HEQ.out
              case measure => simp [intOf]; omega
    · obtain rfl : N = k := by omega
      have hi : ¬ (N : Int) < (N : Int) := by omega
      have hd : decide (N < N) = false := by simp
      have HB := Lib.hid hbel
      have HOW := Lib.hid hown
      have HOL := Lib.hid hol
      rw [Nat.sub_self] at heq
      by_cases h0 : m = 0
      · subst h0
        have HF : Hid (parseO N zs = some os) := by
          show _ = _
          rw [heq]
          unfold parseO
          rw [if_pos hyl]
          simp
        clear hrow hy8 hown hol heq hbel hyl HI
        go_wp2
        go_ret2
        exact ⟨OA, N, oc, true, rfl, HB.out, fun os2 h => (by rw [HF.out] at h; injection h with h; subst h; exact ⟨rfl, HOL.out.symm, HOW.out⟩), fun h => (by rw [HF.out] at h; cases h)⟩
      · have HF : Hid (parseO N zs = none) := by
          show _ = _
          rw [heq]
          unfold parseO
          rw [if_neg (by omega)]
          rfl
        have hb0 : ((m : Int) == 0) = false := beq_eq_false_iff_ne.2 (by omega)
        clear hrow hy8 hown hol heq hbel hyl HI
        go_wp2
        go_ret2
        exact ⟨OA, N, oc, false, rfl, HB.out, fun os h => (by rw [HF.out] at h; cases h), fun _ => rfl⟩

end Go.Proofs.Ytokljdkbheogoaa
