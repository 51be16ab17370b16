/- The document's Answer of codes 1 to 3; the program's in the same words. -/
import Derived.Test.YtoljpdamalcjeaaRAns
import Derived.Test.YtoljpdamalcjeaaLChk
import Derived.Test.YtoljpdamalcjeaaIndex
import Derived.Deep.AppendLies
namespace Go.Proofs.Ytoljpdamalcjeaa
open Go.ChangeShapes Go.WideShapes Go.ChangeAt Go.RowKit
set_option linter.unusedVariables false
set_option linter.unusedSimpArgs false

theorem ianswer_from (A : Option Addr) (n c : Nat) (os : List Ob) (co x : Int) (j u : Nat) (fr : List Ob) (w : World) (hl : OL w w.heap.size A n os) (hc : n ≤ c) (hg : goodL os) (hco : 1 ≤ co ∧ co ≤ 3) (hx : 0 ≤ x ∧ x ≤ 255) (hu : upN os (gOf co) = u) (hj : j < u) (hfr : (os.take u).drop j = fr) (hat : (os.getD j ob0).1 = x ∨ (j = 0 ∧ ∀ k, k < u → (os.getD k ob0).1 ≠ x)) :
    Calls Try.prog 44 #[.slice A n c, .int .i64 co, .int .i64 x] w fun e w' => ∃ B d, e = .returned (.tuple #[.agg #[.int .i64 43, .int .i64 0, .slice none 0 0, .slice none 0 0, .int .i64 0, .int .i64 0, .int .u16 0, .int .u16 0, .int .u16 0, .int .i64 co, .int .i64 (levelOf os), .bool (moreOf fr), .int .i64 (nextOf fr), .slice B (roomOf fr) d], .int .i64 0]) ∧ w'.ownsRow w.heap.size 98 2 (.slice B (roomOf fr) d) (roomOf fr) (obs (fr.take (roomOf fr))) ∧ Below w.heap.size w w' := by
  have hlen := hl.len
  subst hlen
  have l3 := hg.l3
  have l43 := hg.l43
  have hul := upN_le os (gOf co)
  rw [hu] at hul
  obtain ⟨b, off, hA, _⟩ := hl.2 (by omega)
  subst hA
  have hmem : ∀ o ∈ (os.take u).drop j, o ∈ os := fun o ho => List.mem_of_mem_take (List.mem_of_mem_drop ho)
  have htk : ∀ k, k < u → (os.take u).getD k ob0 = os.getD k ob0 := by
    intro k hk
    simp [List.getD_eq_getElem?_getD, List.getElem?_take, hk]
  rw [hfr] at hmem
  rcases hat with hat | ⟨rfl, hat⟩
  · exact ianswer_many (some ⟨b, off, none⟩) os.length c os co x (some ⟨b, off + j * 2, none⟩) (u - j) (c - j) fr w hl (by omega) hc hco hx
      (fun o ho => by have := hg.short o (hmem o ho); omega) (by omega) (by omega)
      (fun W hW => by
        rw [hu]
        exact ifrom_yes b off u c (os.take u) x j W (hW.take u hul) (by omega) (by omega) hj
          (fun k hk => by rw [htk k (by omega), ← hat]; have := hg.lt k j hk (by omega); omega) (by rw [htk j hj]; exact hat))
      (fun W hW => by rw [← hfr]; exact (hW.take u hul).drop j (by omega))
  · exact ianswer_many (some ⟨b, off, none⟩) os.length c os co x (some ⟨b, off, none⟩) u c fr w hl (by omega) hc hco hx
      (fun o ho => by have := hg.short o (hmem o ho); omega) (by omega) (by omega)
      (fun W hW => by
        rw [hu]
        exact ifrom_no (some ⟨b, off, none⟩) u c (os.take u) x W (hW.take u hul) (by omega) (by omega) (fun k hk => by rw [htk k hk]; exact hat k hk))
      (fun W hW => by rw [← hfr, List.drop_zero]; exact hW.take u hul)

set_option maxRecDepth 100000 in
set_option maxHeartbeats 2000000 in
theorem ranswer_from (A : Option Addr) (n c : Nat) (os : List Ob) (co x : Int) (j u : Nat) (fr : List Ob) (w : World) (hl : OL w w.heap.size A n os) (hc : n ≤ c) (hg : goodL os) (hco : 1 ≤ co ∧ co ≤ 3) (hx : 0 ≤ x ∧ x ≤ 255) (hu : upN os (gOf co) = u) (hj : j < u) (hfr : (os.take u).drop j = fr) (hat : (os.getD j ob0).1 = x ∨ (j = 0 ∧ ∀ k, k < u → (os.getD k ob0).1 ≠ x)) :
    Calls Try.prog 45 #[.slice A n c, .int .i64 co, .int .i64 x] w fun e w' => ∃ B d, e = .returned (.tuple #[.agg #[.int .i64 43, .int .i64 0, .slice none 0 0, .slice none 0 0, .int .i64 0, .int .i64 0, .int .u16 0, .int .u16 0, .int .u16 0, .int .i64 co, .int .i64 (levelOf os), .bool (moreOf fr), .int .i64 (nextOf fr), .slice B (roomOf fr) d], .int .i64 0]) ∧ w'.ownsRow w.heap.size 98 2 (.slice B (roomOf fr) d) (roomOf fr) (obs (fr.take (roomOf fr))) ∧ Below w.heap.size w w' := by
  have C2 := Lib.hid (fun W => byteful_yes x W hx.1 hx.2)
  obtain ⟨le, hle⟩ : ∃ le, levelOf os = le := ⟨_, rfl⟩
  have C3 := Lib.hid (fun W hW => rlevel_any A n c os W le hg hW hle)
  have HL := Lib.hid (fun W (hW : Below w.heap.size w W) => hl.below hW)
  have hlen := hl.len
  have hn : n ≤ 43 := by have := hg.l43; omega
  have hul : u ≤ n := by have := upN_le os (gOf co); omega
  obtain ⟨L, hL⟩ : ∃ L, gOf co = L := ⟨_, rfl⟩
  have hix : ∀ W : World, (Instr.index 133 (.agg #[.int .i64 0, .int .i64 2, .int .i64 127, .int .i64 255]) (.int .i64 co)).run Try.prog W = .ok (.int .i64 L) W := fun W => run_index_ints _ 4 _ _ _ W Try.underlying133 (by omega) (by omega) (by
    rw [← hL]
    rcases (show co = 1 ∨ co = 2 ∨ co = 3 by omega) with rfl | rfl | rfl <;> rfl)
  have HIN : Hid (∀ k, k < n → ((os.getD k ob0).1 ≤ L ↔ k < u)) := Lib.hid (fun k hk => by have h := hg.in_ L k (by omega); rw [← hL, hu] at h; rw [← hL]; exact h)
  have HAT : Hid (∀ k, k < n → (((os.getD k ob0).1 = x ∧ x ≤ L → k = j) ∧ (k = j ∧ j ≠ 0 → (os.getD k ob0).1 = x ∧ x ≤ L))) := Lib.hid (fun k hk => by
    refine ⟨fun h => ?_, fun h => ?_⟩
    · have hku := (HIN.out k hk).1 (by rw [h.1]; exact h.2)
      rcases hat with hat | ⟨_, hat⟩
      · rcases Nat.lt_trichotomy k j with h2 | h2 | h2
        · have := hg.lt k j h2 (by omega); omega
        · exact h2
        · have := hg.lt j k h2 (by omega); omega
      · exact absurd h.1 (hat k hku)
    · rcases hat with hat | ⟨h0, _⟩
      · rw [h.1]; exact ⟨hat, by rw [← hat]; exact (HIN.out j (by omega)).2 hj⟩
      · omega)
  have hco4 : (co == 4) = false := beq_eq_false_iff_ne.2 (by omega)
  have hco5 : ¬ co < 1 := by omega
  have hco6 : ¬ 4 < co := by omega
  have HFR := Lib.hid hfr
  have HGD := Lib.hid hg
  have HLE := Lib.hid hlen
  have hfl : fr.length = u - j := by rw [← hfr, List.length_drop, List.length_take]; omega
  obtain ⟨r, hr⟩ : ∃ r, roomOf fr = r := ⟨_, rfl⟩
  have hru : r ≤ u - j := by rw [← hr, ← hfl]; exact roomG_le 246 fr
  have HFL := Lib.hid hfl
  have HRI : Hid (∀ k, k < r → used (fr.take (k + 1)) ≤ 246) := Lib.hid (fun k hk => (roomG_in 246 fr k (by rw [← hr] at hk; exact hk)).2)
  have HRO : Hid (r < u - j → 246 < used (fr.take (r + 1))) := Lib.hid (fun h => by
    have h2 := roomG_out 246 fr (by rw [hfl]; rw [← hr] at h; exact h)
    rcases Nat.lt_or_ge 246 (used (fr.take (r + 1))) with h3 | h3
    · exact h3
    · refine absurd ⟨fun o ho => hg.byte o ?_, ?_⟩ h2
      · have := List.mem_of_mem_take ho
        rw [← hfr] at this
        exact List.mem_of_mem_take (List.mem_of_mem_drop this)
      · have hr2 : roomG 246 fr = r := hr
        rw [hr2]; exact h3)
  have HUSE : Hid (∀ k, k < u - j → used (fr.take (k + 1)) = used (fr.take k) + (2 + (fr.getD k ob0).2.size)) := Lib.hid (fun k hk => used_take fr k (by rw [hfl]; exact hk))
  have HGD2 : Hid (∀ k, k < u - j → fr.getD k ob0 = os.getD (j + k) ob0) := Lib.hid (fun k hk => by
    rw [← hfr]
    simp [List.getD_eq_getElem?_getD, List.getElem?_drop, List.getElem?_take, show j + k < u by omega])
  have hmo : moreOf fr = decide (r < u - j) := by unfold moreOf; rw [hr, hfl]
  have hnx : nextOf fr = if r < u - j then (os.getD (j + r) ob0).1 else 0 := by
    unfold nextOf
    rw [hr, hfl]
    split
    · rename_i h; rw [HGD2.out r h]
    · rfl
  have HNX := Lib.hid hnx
  have HMO := Lib.hid hmo
  rw [hle, hr]
  have HLW := Lib.hid hl
  clear hl hle hg hlen hL hu hat hfr hc hfl hr hnx hmo
  go_enter Try.func45, Try.ntmps45
  go_wp2_with (first
    | (go_at_call 72; refine (C2.out _).mono ?_; rintro e w' ⟨rfl, rfl⟩)
    | (go_at_call 96
       refine (C3.out _ (HL.out _ ((Below.refl _ _).alloc (Nat.le_refl _) _))).mono ?_
       rintro e w1 ⟨rfl, d, hw1⟩
       have HB1 : Hid (Below w.heap.size w w1) := by rw [hw1]; exact Lib.hid (below_drewN ((Below.refl _ _).alloc (Nat.le_refl _) _) d)
       have HZ1 : Hid (WholeV w1 w.heap.size 53 [.int .i64 0, .int .i64 0, .slice none 0 0, .slice none 0 0, .int .i64 0, .int .i64 0, .int .u16 0, .int .u16 0, .int .u16 0, .int .i64 0, .int .i64 0, .bool false, .int .i64 0, .slice none 0 0]) := by rw [hw1]; exact Lib.hid (heap_alloc_new w _)
       clear hw1))
  obtain ⟨w3, hw3⟩ : ∃ w3, w1.alloc (.cells #[.int .i64 43, .int .i64 0, .slice none 0 0, .slice none 0 0, .int .i64 0, .int .i64 0, .int .u16 0, .int .u16 0, .int .u16 0, .int .i64 co, .int .i64 le, .bool false, .int .i64 0, .slice none 0 0] 53) = w3 := ⟨_, rfl⟩
  have HB3 : Hid (Below w.heap.size w w3) := by rw [← hw3]; exact Lib.hid (HB1.out.alloc HB1.out.size _)
  have HZ3 : Hid (WholeV w3 w.heap.size 53 [.int .i64 0, .int .i64 0, .slice none 0 0, .slice none 0 0, .int .i64 0, .int .i64 0, .int .u16 0, .int .u16 0, .int .u16 0, .int .i64 0, .int .i64 0, .bool false, .int .i64 0, .slice none 0 0]) := by rw [← hw3]; exact Lib.hid (HZ1.out.below ((Below.refl _ _).alloc (Nat.le_refl _) _) HZ1.out.lt)
  have HY3 : Hid (WholeV w3 w1.heap.size 53 [.int .i64 43, .int .i64 0, .slice none 0 0, .slice none 0 0, .int .i64 0, .int .i64 0, .int .u16 0, .int .u16 0, .int .u16 0, .int .i64 co, .int .i64 le, .bool false, .int .i64 0, .slice none 0 0]) := by rw [← hw3]; exact Lib.hid (heap_alloc_new w1 _)
  have HS3 : Hid (w3.heap.size = w1.heap.size + 1) := by rw [← hw3]; exact Lib.hid (by simp)
  rw [hw3]
  clear hw3 hix
  have hn0 : w.heap.size < w1.heap.size := HZ1.out.lt
  go_loop [11, 12] (fun f i => ∃ (k q : Nat), k ≤ n ∧ i = .int .i64 (k : Int) ∧ f = .int .i64 (q : Int) ∧ Hid (if j < k then q = j else q = 0)) (fun _ i => n - (intOf i).toNat)
  case atStart => exact ⟨0, 0, by omega, rfl, rfl, Lib.hid (by simp)⟩
  case round =>
    obtain ⟨k, q, hk, rfl, rfl, HQ⟩ := hrel
    by_cases hlt : k < n
    · have hi : (k : Int) < (n : Int) := by omega
      obtain ⟨b, off, hAA, hb, hc1, hc2⟩ := (HL.out _ HB3.out).at_ k hlt
      subst hAA
      have hs := HAT.out k hlt
      obtain ⟨y, hy⟩ : ∃ y, (os.getD k ob0).1 = y := ⟨_, rfl⟩
      rw [hy] at hc1 hs
      clear hy hc2
      by_cases hyx : y = x
      · subst hyx
        have hee : (y == y) = true := by simp
        by_cases hyL : y ≤ L
        · have HKJ : Hid (k = j) := Lib.hid (hs.1 ⟨rfl, hyL⟩)
          clear hs
          go_wp2
          go_round
          case rel => exact ⟨k + 1, k, by omega, by go_num, rfl, Lib.hid (by rw [if_pos (by have := HKJ.out; omega)]; exact HKJ.out)⟩
          case measure => simp [intOf]; omega
        · have HKJ : Hid (¬ (k = j ∧ j ≠ 0)) := Lib.hid fun h => hyL (hs.2 h).2
          clear hs
          go_wp2
          go_round
          case rel =>
            refine ⟨k + 1, q, by omega, by go_num, rfl, Lib.hid ?_⟩
            have h := HQ.out
            have h2 := HKJ.out
            split at h
            · rw [if_pos (by omega)]; exact h
            · split
              · omega
              · exact h
          case measure => simp [intOf]; omega
      · have hne2 : (y == x) = false := beq_eq_false_iff_ne.2 hyx
        have HKJ : Hid (¬ (k = j ∧ j ≠ 0)) := Lib.hid fun h => hyx (hs.2 h).1
        clear hs
        go_wp2
        go_round
        case rel =>
          refine ⟨k + 1, q, by omega, by go_num, rfl, Lib.hid ?_⟩
          have h := HQ.out
          have h2 := HKJ.out
          split at h
          · rw [if_pos (by omega)]; exact h
          · split
            · omega
            · exact h
        case measure => simp [intOf]; omega
    · obtain rfl : n = k := by omega
      have hd : decide (n < n) = false := by simp
      obtain rfl : j = q := by have h := HQ.out; rw [if_pos (by omega)] at h; exact h.symm
      clear HQ
      go_wp2
      go_loopw [13, 14] (fun s i wr => ∃ (k t U : Nat) (G : Option Addr) (gd : Nat), k ≤ r ∧ t ≤ n ∧ U ≤ 246 ∧ i = .int .i64 (t : Int) ∧ s = .int .i64 (7 + (U : Int)) ∧ Hid (t = j + k) ∧ Hid (used (fr.take k) = U) ∧ Hid (WholeV wr w1.heap.size 53 [.int .i64 43, .int .i64 0, .slice none 0 0, .slice none 0 0, .int .i64 0, .int .i64 0, .int .u16 0, .int .u16 0, .int .u16 0, .int .i64 co, .int .i64 le, .bool false, .int .i64 0, .slice G k gd]) ∧ Hid (WholeV wr w.heap.size 53 [.int .i64 0, .int .i64 0, .slice none 0 0, .slice none 0 0, .int .i64 0, .int .i64 0, .int .u16 0, .int .u16 0, .int .u16 0, .int .i64 0, .int .i64 0, .bool false, .int .i64 0, .slice none 0 0]) ∧ Hid (wr.ownsRow w3.heap.size 98 2 (.slice G k gd) k (obs (fr.take k))) ∧ Hid (Below w.heap.size w wr)) (fun _ i _ => n - (intOf i).toNat)
      case atStart => exact ⟨0, j, 0, none, 0, by omega, by omega, by omega, rfl, by simp, Lib.hid rfl, Lib.hid (by simp [used]), HY3, HZ3, Lib.hid (own2_none _ _ _), HB3⟩
      case round =>
        obtain ⟨k, t, U, G, gd, hkr, htn, hU, rfl, rfl, HT, HU, HYK, HZK, HOK, HBK⟩ := hrel
        have hnn : w.heap.size < w3.heap.size := by have := HS3.out; omega
        have ht := HT.out
        obtain ⟨hy0, hy1, hy2, hy3, hy4, hy5, hy6, hy7, hy8, hy9, hy10, hy11, hy12, hy13⟩ := cells14 HYK.out
        by_cases hlt : k < r
        · have hi : (t : Int) < (n : Int) := by omega
          obtain ⟨b, off, hAA, hb, hc1, hc2⟩ := (HL.out _ HBK.out).at_ t (by omega)
          subst hAA
          have hyL := (HIN.out t (by omega)).2 (by omega)
          have hus := HUSE.out k (by omega)
          have hin := HRI.out k hlt
          have hgd := HGD2.out k (by omega)
          rw [← ht] at hgd
          rw [HU.out, hgd] at hus
          obtain ⟨y, hy⟩ : ∃ y, (os.getD t ob0).1 = y := ⟨_, rfl⟩
          obtain ⟨S, hS⟩ : ∃ S, (os.getD t ob0).2 = S := ⟨_, rfl⟩
          have hpair : os.getD t ob0 = (y, S) := by rw [← hy, ← hS]
          have HTK : Hid (fr.take (k + 1) = fr.take k ++ [(y, S)]) := Lib.hid (by
            rw [List.take_succ_eq_append_getElem (by rw [HFL.out]; omega), ← hpair, ← hgd]
            simp [List.getD_eq_getElem?_getD, show k < fr.length by rw [HFL.out]; omega])
          rw [hy] at hc1 hyL
          rw [hS] at hc2 hus
          rw [hus] at hin
          have HUS := Lib.hid hus
          have hsz : ¬ (253 : Int) < 7 + (U : Int) + 2 + (S.size : Int) := by omega
          have HNE : Hid (∀ g, g < w3.heap.size → some g ≠ (Value.slice G k gd).ownBlock) := Lib.hid (fun g hg h => by have := own2_ge HOK.out g h.symm; omega)
          have hw1r : w1.heap.size < wr.heap.size := HYK.out.lt
          have hs3 : w1.heap.size < w3.heap.size := by have := HS3.out; omega
          clear hus hgd hy hS hpair ht
          have hl1 : w3.heap.size ≤ wr.heap.size := by have h1 := HS3.out; have h2 := HYK.out.lt; omega
          go_wp2
          go_region_law (first
            | (refine step_append_obs (.tmp 112) (.tmp 117) w3.heap.size (.slice G k gd) k (fr.take k) 1 [(y, S)] (by omega) ?_ ?_ ?_ ?_ ?_
               · exact ⟨rfl, rfl, (by first | (simp [eval_put_tmp, size_put]; done) | (simp [eval_put_tmp, size_put]; simp [Act.eval]; done) | (simp [Act.eval]; done))⟩
               · exact own2_keep HOK.out (by first | exact ((Below.refl _ _).alloc (Nat.le_refl _) _).drew | exact (Below.refl _ _).drew.alloc (Nat.le_refl _) _ | exact (Below.refl _ _).alloc (Nat.le_refl _) _)
               · exact ⟨some ⟨wr.heap.size, 0, none⟩, 1, (by first | (simp [eval_put_tmp, size_put]; done) | (simp [eval_put_tmp, size_put]; simp [Act.eval]; done) | (simp [Act.eval]; done)), ol_of_own (own2_new wr [(y, S)] 98 1 rfl (by omega))⟩
               · simp; omega
               intro A6 c6 w6 hown hg
               have HO6 : Hid (w6.ownsRow w3.heap.size 98 2 (.slice A6 (k + 1) c6) (k + 1) (obs (fr.take (k + 1)))) := Lib.hid (by rw [HTK.out]; exact hown)
               have HY6 : Hid (WholeV w6 w1.heap.size 53 [.int .i64 43, .int .i64 0, .slice none 0 0, .slice none 0 0, .int .i64 0, .int .i64 0, .int .u16 0, .int .u16 0, .int .u16 0, .int .i64 co, .int .i64 le, .bool false, .int .i64 0, .slice G k gd]) := Lib.hid ((hg.block w1.heap.size (by simp; omega) (HNE.out _ (by omega))).trans (HYK.out.below (by first | exact ((Below.refl _ _).alloc (Nat.le_refl _) _).drew | exact (Below.refl _ _).drew.alloc (Nat.le_refl _) _ | exact (Below.refl _ _).alloc (Nat.le_refl _) _) HYK.out.lt))
               have HZ6 : Hid (WholeV w6 w.heap.size 53 [.int .i64 0, .int .i64 0, .slice none 0 0, .slice none 0 0, .int .i64 0, .int .i64 0, .int .u16 0, .int .u16 0, .int .u16 0, .int .i64 0, .int .i64 0, .bool false, .int .i64 0, .slice none 0 0]) := Lib.hid ((hg.block w.heap.size (by simp; omega) (HNE.out _ (by omega))).trans (HZK.out.below (by first | exact ((Below.refl _ _).alloc (Nat.le_refl _) _).drew | exact (Below.refl _ _).drew.alloc (Nat.le_refl _) _ | exact (Below.refl _ _).alloc (Nat.le_refl _) _) HZK.out.lt))
               have HB6 : Hid (Below w.heap.size w w6) := Lib.hid (below_append2 (by first | exact (HBK.out.alloc HBK.out.size _).drew | exact HBK.out.drew.alloc HBK.out.size _ | exact HBK.out.alloc HBK.out.size _) (own2_mono (own2_keep HOK.out (by first | exact ((Below.refl _ _).alloc (Nat.le_refl _) _).drew | exact (Below.refl _ _).drew.alloc (Nat.le_refl _) _ | exact (Below.refl _ _).alloc (Nat.le_refl _) _)) (Nat.le_of_lt hnn)) hg (by simp; omega))
               have hx13 : w6.cell? ⟨w1.heap.size, 13, none⟩ = some (.slice G k gd) := HY6.out.cell 13
               have hxf := HY6.out.frozen 13
               clear hown hg))
          all_goals
            go_wp2
            go_roundw
            case rel => exact ⟨k + 1, t + 1, U + (2 + S.size), A6, c6, by omega, by omega, by omega, by go_num, by go_num, Lib.hid (by have := HT.out; omega), Lib.hid HUS.out, Lib.hid (HY6.out.set 13 _), Lib.hid (HZ6.out.below ((Below.refl w1.heap.size w6).setCell (Nat.le_refl _) _) hn0), Lib.hid (ownsRow_setCell_below HO6.out (a := ⟨w1.heap.size, 13, none⟩) (show w1.heap.size < w3.heap.size by have := HS3.out; omega) _), Lib.hid (HB6.out.setCell (Nat.le_of_lt hn0) _)⟩
            case measure => simp [intOf]; omega
        · obtain rfl : r = k := by omega
          obtain ⟨hq0, hq1, hq2, hq3, hq4, hq5, hq6, hq7, hq8, hq9, hq10, hq11, hq12, hq13⟩ := cells14 HZK.out
          have hg0 := HZK.out.frozen 0
          have hg1 := HZK.out.frozen 1
          have hg2 := HZK.out.frozen 2
          have hg3 := HZK.out.frozen 3
          have hg4 := HZK.out.frozen 4
          have hg5 := HZK.out.frozen 5
          have hg6 := HZK.out.frozen 6
          have hg7 := HZK.out.frozen 7
          have hg8 := HZK.out.frozen 8
          have hg9 := HZK.out.frozen 9
          have hg10 := HZK.out.frozen 10
          have hg11 := HZK.out.frozen 11
          have hg12 := HZK.out.frozen 12
          have hg13 := HZK.out.frozen 13
          by_cases hmore : r < u - j
          · have hi : (t : Int) < (n : Int) := by omega
            obtain ⟨b, off, hAA, hb, hc1, hc2⟩ := (HL.out _ HBK.out).at_ t (by omega)
            subst hAA
            have hyL := (HIN.out t (by omega)).2 (by omega)
            have hus := HUSE.out r hmore
            have hout := HRO.out hmore
            have hgd := HGD2.out r hmore
            rw [← ht] at hgd
            rw [HU.out, hgd] at hus
            have hnx2 := HNX.out
            have hmo2 := HMO.out
            rw [if_pos hmore, ← ht] at hnx2
            rw [decide_eq_true hmore] at hmo2
            obtain ⟨y, hy⟩ : ∃ y, (os.getD t ob0).1 = y := ⟨_, rfl⟩
            obtain ⟨S, hS⟩ : ∃ S, (os.getD t ob0).2 = S := ⟨_, rfl⟩
            have hSz : S.size ≤ 244 := by rw [← hS]; exact HGD.out.short _ (goodL.getD_mem t (by rw [HLE.out]; omega))
            rw [hy] at hc1 hyL hnx2
            rw [hS] at hc2 hus
            rw [hus] at hout
            have hsz : (253 : Int) < 7 + (U : Int) + 2 + (S.size : Int) := by omega
            obtain ⟨b', off', hAA', hb', _, _⟩ := HLW.out.at_ t (by omega)
            injection hAA' with hAA'
            injection hAA' with hb1 hb2
            subst hb1 hb2
            have hbn : ¬ b = w1.heap.size := by omega
            have hbn2 : ¬ w1.heap.size = b := by omega
            have hf11 := HYK.out.frozen 11
            have hf12 := HYK.out.frozen 12
            have hn4 : ¬ w1.heap.size = w.heap.size := by omega
            have hn5 : ¬ w.heap.size = w1.heap.size := by omega
            have HM2 := Lib.hid hmo2
            have HN2 := Lib.hid hnx2
            clear hus hgd hy hS ht hnx2 hmo2 hout
            go_wp2
            go_region_law (fail)
            all_goals
              go_wp2
              obtain ⟨wq, hwq⟩ : ∃ wq, (wr.setCell ⟨w1.heap.size, 11, none⟩ (.bool true)).setCell ⟨w1.heap.size, 12, none⟩ (.int .i64 y) = wq := ⟨_, rfl⟩
              have hzq : WholeV wq w.heap.size 53 [.int .i64 0, .int .i64 0, .slice none 0 0, .slice none 0 0, .int .i64 0, .int .i64 0, .int .u16 0, .int .u16 0, .int .u16 0, .int .i64 0, .int .i64 0, .bool false, .int .i64 0, .slice none 0 0] := by rw [← hwq]; exact (Below.heap_setCell _ ⟨w1.heap.size, 12, none⟩ _ _ hn5).trans ((Below.heap_setCell _ ⟨w1.heap.size, 11, none⟩ _ _ hn5).trans HZK.out)
              have hbq : Below w.heap.size w wq := by rw [← hwq]; exact (HBK.out.setCell (p := ⟨w1.heap.size, 11, none⟩) (Nat.le_of_lt hn0) _).setCell (p := ⟨w1.heap.size, 12, none⟩) (Nat.le_of_lt hn0) _
              have hoq : wq.ownsRow w3.heap.size 98 2 (.slice G r gd) r (obs (fr.take r)) := by rw [← hwq]; exact ownsRow_setCell_below (ownsRow_setCell_below HOK.out (a := ⟨w1.heap.size, 11, none⟩) (show w1.heap.size < w3.heap.size by have := HS3.out; omega) _) (a := ⟨w1.heap.size, 12, none⟩) (show w1.heap.size < w3.heap.size by have := HS3.out; omega) _
              rw [hwq]
              have hwh8 := all14 hzq (.int .i64 43) (.int .i64 0) (.slice none 0 0) (.slice none 0 0) (.int .i64 0) (.int .i64 0) (.int .u16 0) (.int .u16 0) (.int .u16 0) (.int .i64 co) (.int .i64 le) (.bool true) (.int .i64 y) (.slice G r gd) rfl
              have hbb8 := bel14 hbq (.int .i64 43) (.int .i64 0) (.slice none 0 0) (.slice none 0 0) (.int .i64 0) (.int .i64 0) (.int .u16 0) (.int .u16 0) (.int .u16 0) (.int .i64 co) (.int .i64 le) (.bool true) (.int .i64 y) (.slice G r gd)
              have hol8 := own14 hoq (g := w.heap.size) hnn (.int .i64 43) (.int .i64 0) (.slice none 0 0) (.slice none 0 0) (.int .i64 0) (.int .i64 0) (.int .u16 0) (.int .u16 0) (.int .u16 0) (.int .i64 co) (.int .i64 le) (.bool true) (.int .i64 y) (.slice G r gd)
              obtain ⟨w8, hw8⟩ : ∃ w8, ((((((((((((((wq.setCell ⟨w.heap.size, 0, none⟩ (.int .i64 43)).setCell ⟨w.heap.size, 1, none⟩ (.int .i64 0)).setCell ⟨w.heap.size, 2, none⟩ (.slice none 0 0)).setCell ⟨w.heap.size, 3, none⟩ (.slice none 0 0)).setCell ⟨w.heap.size, 4, none⟩ (.int .i64 0)).setCell ⟨w.heap.size, 5, none⟩ (.int .i64 0)).setCell ⟨w.heap.size, 6, none⟩ (.int .u16 0)).setCell ⟨w.heap.size, 7, none⟩ (.int .u16 0)).setCell ⟨w.heap.size, 8, none⟩ (.int .u16 0)).setCell ⟨w.heap.size, 9, none⟩ (.int .i64 co)).setCell ⟨w.heap.size, 10, none⟩ (.int .i64 le)).setCell ⟨w.heap.size, 11, none⟩ (.bool true)).setCell ⟨w.heap.size, 12, none⟩ (.int .i64 y)).setCell ⟨w.heap.size, 13, none⟩ (.slice G r gd)) = w8 := ⟨_, rfl⟩
              rw [hw8] at hwh8 hbb8 hol8
              rw [hw8]
              obtain ⟨w9, hw9⟩ : ∃ w9, w8.drew = w9 := ⟨_, rfl⟩
              have hwh : WholeV w8.drew w.heap.size 53 [.int .i64 43, .int .i64 0, .slice none 0 0, .slice none 0 0, .int .i64 0, .int .i64 0, .int .u16 0, .int .u16 0, .int .u16 0, .int .i64 co, .int .i64 le, .bool true, .int .i64 y, .slice G r gd] := hwh8
              have hbb : Below w.heap.size w w8.drew := hbb8.drew
              have hol9 : w8.drew.ownsRow w3.heap.size 98 2 (.slice G r gd) r (obs (fr.take r)) := hol8
              rw [hw9] at hwh hbb hol9
              rw [hw9]
              have hz9 : w.heap.size < w9.heap.size := hwh.lt
              obtain ⟨he0, he1, he2, he3, he4, he5, he6, he7, he8, he9, he10, he11, he12, he13⟩ := cells14 hwh
              clear hq0 hq1 hq2 hq3 hq4 hq5 hq6 hq7 hq8 hq9 hq10 hq11 hq12 hq13 hg0 hg1 hg2 hg3 hg4 hg5 hg6 hg7 hg8 hg9 hg10 hg11 hg12 hg13 hy0 hy1 hy2 hy3 hy4 hy5 hy6 hy7 hy8 hy9 hy10 hy11 hy12 hy13
              exact bodyPost_ret (v := .tuple #[.agg #[.int .i64 43, .int .i64 0, .slice none 0 0, .slice none 0 0, .int .i64 0, .int .i64 0, .int .u16 0, .int .u16 0, .int .u16 0, .int .i64 co, .int .i64 le, .bool true, .int .i64 y, .slice G r gd], .int .i64 0]) (by simp [results, Try.results45, go_sem, hz9, he0, he1, he2, he3, he4, he5, he6, he7, he8, he9, he10, he11, he12, he13]) rfl ⟨G, gd, (by rw [HM2.out, HN2.out]), own2_mono hol9 (Nat.le_of_lt hnn), hbb⟩
          · have hmo2 := HMO.out
            have hnx2 := HNX.out
            rw [if_neg hmore] at hnx2
            rw [decide_eq_false hmore] at hmo2
            have HM2 := Lib.hid hmo2
            have HN2 := Lib.hid hnx2
            clear hmo2 hnx2
            by_cases htn2 : t < n
            · have hi : (t : Int) < (n : Int) := by omega
              obtain ⟨b, off, hAA, hb, hc1, hc2⟩ := (HL.out _ HBK.out).at_ t (by omega)
              subst hAA
              have hyL : ¬ (os.getD t ob0).1 ≤ L := fun h => by have := (HIN.out t (by omega)).1 h; omega
              obtain ⟨y, hy⟩ : ∃ y, (os.getD t ob0).1 = y := ⟨_, rfl⟩
              rw [hy] at hc1 hyL
              clear hy hc2 ht
              go_wp2
              obtain ⟨w9, hw9⟩ : ∃ w9, ((((((((((((((wr.setCell ⟨w.heap.size, 0, none⟩ (.int .i64 43)).setCell ⟨w.heap.size, 1, none⟩ (.int .i64 0)).setCell ⟨w.heap.size, 2, none⟩ (.slice none 0 0)).setCell ⟨w.heap.size, 3, none⟩ (.slice none 0 0)).setCell ⟨w.heap.size, 4, none⟩ (.int .i64 0)).setCell ⟨w.heap.size, 5, none⟩ (.int .i64 0)).setCell ⟨w.heap.size, 6, none⟩ (.int .u16 0)).setCell ⟨w.heap.size, 7, none⟩ (.int .u16 0)).setCell ⟨w.heap.size, 8, none⟩ (.int .u16 0)).setCell ⟨w.heap.size, 9, none⟩ (.int .i64 co)).setCell ⟨w.heap.size, 10, none⟩ (.int .i64 le)).setCell ⟨w.heap.size, 11, none⟩ (.bool false)).setCell ⟨w.heap.size, 12, none⟩ (.int .i64 0)).setCell ⟨w.heap.size, 13, none⟩ (.slice G r gd)) = w9 := ⟨_, rfl⟩
              have hwh := all14 HZK.out (.int .i64 43) (.int .i64 0) (.slice none 0 0) (.slice none 0 0) (.int .i64 0) (.int .i64 0) (.int .u16 0) (.int .u16 0) (.int .u16 0) (.int .i64 co) (.int .i64 le) (.bool false) (.int .i64 0) (.slice G r gd) rfl
              have hbb := bel14 HBK.out (.int .i64 43) (.int .i64 0) (.slice none 0 0) (.slice none 0 0) (.int .i64 0) (.int .i64 0) (.int .u16 0) (.int .u16 0) (.int .u16 0) (.int .i64 co) (.int .i64 le) (.bool false) (.int .i64 0) (.slice G r gd)
              have hol9 := own14 HOK.out (g := w.heap.size) hnn (.int .i64 43) (.int .i64 0) (.slice none 0 0) (.slice none 0 0) (.int .i64 0) (.int .i64 0) (.int .u16 0) (.int .u16 0) (.int .u16 0) (.int .i64 co) (.int .i64 le) (.bool false) (.int .i64 0) (.slice G r gd)
              rw [hw9] at hwh hbb hol9
              rw [hw9]
              have hz9 : w.heap.size < w9.heap.size := hwh.lt
              obtain ⟨he0, he1, he2, he3, he4, he5, he6, he7, he8, he9, he10, he11, he12, he13⟩ := cells14 hwh
              clear hq0 hq1 hq2 hq3 hq4 hq5 hq6 hq7 hq8 hq9 hq10 hq11 hq12 hq13 hg0 hg1 hg2 hg3 hg4 hg5 hg6 hg7 hg8 hg9 hg10 hg11 hg12 hg13 hy0 hy1 hy2 hy3 hy4 hy5 hy6 hy7 hy8 hy9 hy10 hy11 hy12 hy13
              go_wp2
              exact bodyPost_ret (v := .tuple #[.agg #[.int .i64 43, .int .i64 0, .slice none 0 0, .slice none 0 0, .int .i64 0, .int .i64 0, .int .u16 0, .int .u16 0, .int .u16 0, .int .i64 co, .int .i64 le, .bool false, .int .i64 0, .slice G r gd], .int .i64 0]) (by simp [results, Try.results45, go_sem, hz9, he0, he1, he2, he3, he4, he5, he6, he7, he8, he9, he10, he11, he12, he13]) rfl ⟨G, gd, (by rw [HM2.out, HN2.out]), own2_mono hol9 (Nat.le_of_lt hnn), hbb⟩
            · obtain rfl : n = t := by omega
              have hd : decide (n < n) = false := by simp
              clear ht
              go_wp2
              obtain ⟨w9, hw9⟩ : ∃ w9, ((((((((((((((wr.setCell ⟨w.heap.size, 0, none⟩ (.int .i64 43)).setCell ⟨w.heap.size, 1, none⟩ (.int .i64 0)).setCell ⟨w.heap.size, 2, none⟩ (.slice none 0 0)).setCell ⟨w.heap.size, 3, none⟩ (.slice none 0 0)).setCell ⟨w.heap.size, 4, none⟩ (.int .i64 0)).setCell ⟨w.heap.size, 5, none⟩ (.int .i64 0)).setCell ⟨w.heap.size, 6, none⟩ (.int .u16 0)).setCell ⟨w.heap.size, 7, none⟩ (.int .u16 0)).setCell ⟨w.heap.size, 8, none⟩ (.int .u16 0)).setCell ⟨w.heap.size, 9, none⟩ (.int .i64 co)).setCell ⟨w.heap.size, 10, none⟩ (.int .i64 le)).setCell ⟨w.heap.size, 11, none⟩ (.bool false)).setCell ⟨w.heap.size, 12, none⟩ (.int .i64 0)).setCell ⟨w.heap.size, 13, none⟩ (.slice G r gd)) = w9 := ⟨_, rfl⟩
              have hwh := all14 HZK.out (.int .i64 43) (.int .i64 0) (.slice none 0 0) (.slice none 0 0) (.int .i64 0) (.int .i64 0) (.int .u16 0) (.int .u16 0) (.int .u16 0) (.int .i64 co) (.int .i64 le) (.bool false) (.int .i64 0) (.slice G r gd) rfl
              have hbb := bel14 HBK.out (.int .i64 43) (.int .i64 0) (.slice none 0 0) (.slice none 0 0) (.int .i64 0) (.int .i64 0) (.int .u16 0) (.int .u16 0) (.int .u16 0) (.int .i64 co) (.int .i64 le) (.bool false) (.int .i64 0) (.slice G r gd)
              have hol9 := own14 HOK.out (g := w.heap.size) hnn (.int .i64 43) (.int .i64 0) (.slice none 0 0) (.slice none 0 0) (.int .i64 0) (.int .i64 0) (.int .u16 0) (.int .u16 0) (.int .u16 0) (.int .i64 co) (.int .i64 le) (.bool false) (.int .i64 0) (.slice G r gd)
              rw [hw9] at hwh hbb hol9
              rw [hw9]
              have hz9 : w.heap.size < w9.heap.size := hwh.lt
              obtain ⟨he0, he1, he2, he3, he4, he5, he6, he7, he8, he9, he10, he11, he12, he13⟩ := cells14 hwh
              clear hq0 hq1 hq2 hq3 hq4 hq5 hq6 hq7 hq8 hq9 hq10 hq11 hq12 hq13 hg0 hg1 hg2 hg3 hg4 hg5 hg6 hg7 hg8 hg9 hg10 hg11 hg12 hg13 hy0 hy1 hy2 hy3 hy4 hy5 hy6 hy7 hy8 hy9 hy10 hy11 hy12 hy13
              go_wp2
              exact bodyPost_ret (v := .tuple #[.agg #[.int .i64 43, .int .i64 0, .slice none 0 0, .slice none 0 0, .int .i64 0, .int .i64 0, .int .u16 0, .int .u16 0, .int .u16 0, .int .i64 co, .int .i64 le, .bool false, .int .i64 0, .slice G r gd], .int .i64 0]) (by simp [results, Try.results45, go_sem, hz9, he0, he1, he2, he3, he4, he5, he6, he7, he8, he9, he10, he11, he12, he13]) rfl ⟨G, gd, (by rw [HM2.out, HN2.out]), own2_mono hol9 (Nat.le_of_lt hnn), hbb⟩

end Go.Proofs.Ytoljpdamalcjeaa
