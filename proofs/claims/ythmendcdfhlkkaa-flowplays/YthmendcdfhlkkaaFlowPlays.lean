/- Proved: for every int, bool, slice of ints, slice of bytes, bool and slice of ints, busbarlaw10.FlowPlays returns true, and its arguments read as before. Conditions: none. -/
import Derived.Test.YthmendcdfhlkkaaFPlaysT
import Derived.Deep.CutRange
namespace Go.Proofs.Ythmendcdfhlkkaa.flowPlays
open Go.ChangeShapes Go.WideShapes Go.ChangeAt Go.RowKit
open Go.ChangeMaps (open_string shut_string)
set_option linter.unusedVariables false


/-- The row that is played with, at the start. -/
theorem pi_start {w w2 w3 w4 : World} {g p y x M : Nat} {A : Option Addr} {m d : Nat} {bs : List Int} (hf : FAt w2 g p M 0 [] false) (hg : w.heap.size ≤ g) (hp : w.heap.size ≤ p) (hd : DAt w3 y x (y + 1) M [] false) (hb3 : Below w2.heap.size w2 w3) (hy : w2.heap.size ≤ y) (hx : w2.heap.size ≤ x)
    (hb4 : Below w3.heap.size w3 w4) (ho : w4.ownsRow w3.heap.size 5 1 (.slice A m d) m (bs.map (Value.int .u8))) (hbs : Bytes8 bs) (hbel : Below w.heap.size w w3) : PInv w g y x A m d bs w4 := by
  have hl := hf.q.lt
  have hyl := hd.head.lt
  have hxy : x < y := by have h1 := hd.ref.lt; have h2 := hd.ne; omega
  refine ⟨p, 0, M, M, y + 1, [], false, (hf.below hb3).below hb4, hd.below hb4, fun _ => ⟨rfl, by omega⟩, by omega, hxy, ⟨by omega, by omega⟩, ?_, own_capI ho, hbs, (fun e => by
    subst e
    rcases ho.2 with ⟨e, _⟩ | ⟨_, _, _, e, _⟩
    · injection e
    · cases e), ⟨hg, hp, by omega⟩, hbel.trans (hb4.mono hbel.size)⟩
  have h2 := own_row ho
  have hr := RowV.ints (k := .u8) h2
  have hl2 : bs.length = m := hr.1
  refine ⟨hl2, fun h0 => ?_⟩
  obtain ⟨b, cap, he, hb, hrr⟩ := row_of_own ho h0
  injection he with he
  subst he
  obtain ⟨b', off, e, hlt2, hc⟩ := hr.2 h0
  injection e with e
  injection e with e1 e2
  subst e1 e2
  exact ⟨b, 0, rfl, hlt2, by omega, hc⟩

set_option maxRecDepth 100000 in
set_option maxHeartbeats 16000000 in
theorem plays_main (a0 : Int) (a1 : Bool) (A2 : Option Addr) (n2 c2 : Nat) (ks : List Int) (A3 : Option Addr) (m3 c3 : Nat) (ms : List Int) (a4 : Bool) (A5 : Option Addr) (S c5 : Nat) (ss : List Int) (fs : Nat → List Int) (mo : Int) (M K : Nat) (w : World)
    (b0 : -9223372036854775808 ≤ a0 ∧ a0 ≤ 9223372036854775807) (hsel : (a1 = true ∧ a0 % 600 = mo) ∨ (a1 = false ∧ a0 = mo)) (hM : (mo < 260 ∧ M = 260) ∨ (65536 < mo ∧ M = 65536) ∨ (260 ≤ mo ∧ mo ≤ 65536 ∧ mo = (M : Int)))
    (hr2 : Row .i64 w w.heap.size A2 n2 ks) (hK : K = min n2 12) (hf : ∀ i, i < K → FIs (ks.getD i 0) (fs i)) (hr3 : Row .u8 w w.heap.size A3 m3 ms) (hx3 : Bytes8 ms) (hm3 : m3 ≤ 100)
    (hr5 : Row .i64 w w.heap.size A5 S ss) (hs0 : ∀ i, i < S → -9223372036854775808 ≤ ss.getD i 0 ∧ ss.getD i 0 ≤ 9223372036854775807) (hS : S ≤ 100) :
    Calls Try.prog 6 #[.int .i64 a0, .bool a1, .slice A2 n2 c2, .slice A3 m3 c3, .bool a4, .slice A5 S c5] w fun e w' => e = .returned (.bool true) ∧ Below w.heap.size w w' := by
  have CW0 := Lib.hid (fun W => within_any a0 600 W b0.1 b0.2 (by omega) (by omega))
  have hmo : -9223372036854775808 ≤ mo ∧ mo ≤ 9223372036854775807 := by omega
  have CN := Lib.hid (fun W => fnew_any mo M W hmo.1 hmo.2 (by split <;> split <;> omega))
  have CD := Lib.hid (fun W => dflows_any mo M W hmo.2 hM)
  have CR := Lib.hid (fun W (hb : Below w.heap.size w W) => row_any A2 n2 c2 K ks fs W ((hr2.below hb).more hb.size) hK hf)
  obtain ⟨fr, hfr⟩ : ∃ fr, frOf ks fs = fr := ⟨_, rfl⟩
  have HFR : Hid (∀ i, fr i = frB i (ks.getD i 0 % 256) (fs i)) := fun i => by rw [← hfr]; rfl
  rw [hfr] at CR
  have HZ : Hid (∀ i, i < K → Bytes8 (fs i) ∧ 4 ≤ (fs i).length ∧ (fs i).length ≤ 252) := fun i hi => ⟨(hf i hi).1, (hf i hi).2.1, (hf i hi).2.2.1⟩
  obtain ⟨all, hall⟩ : ∃ all, fcat fr 0 K = all := ⟨_, rfl⟩
  have HL : Hid (all.length ≤ 4000) := by
    have h := fcat_le fr K (fun i hi => by rw [HFR.out, frB_length]; have := HZ.out i hi; omega) K 0 (by omega)
    rw [hall] at h
    show _ ≤ _
    omega
  have HXA : Hid (Bytes8 all) := by
    have h := fcat_bytes fr K (fun i hi => by rw [HFR.out]; have := HZ.out i hi; exact frB_bytes _ _ _ (by omega) (by omega) (by omega) (by omega) this.1) K 0 (by omega)
    rw [hall] at h
    exact h
  rw [hall] at CR
  have HR3 := Lib.hid (fun W (hb : Below w.heap.size w W) => ((hr3.below hb).more hb.size).v)
  have HX3 := Lib.hid hx3
  have HM3 := Lib.hid hm3
  have HR5 := Lib.hid (fun W (hb : Below w.heap.size w W) => (hr5.below hb).more hb.size)
  have HS0 := Lib.hid hs0
  have HSEL := Lib.hid hsel
  have h3i : ¬ (100 : Int) < (m3 : Int) := by omega
  have hSi : ¬ (100 : Int) < (S : Int) := by omega
  clear b0 hsel hM hr2 hK hf hr3 hx3 hm3 hr5 hs0 hmo hfr hall HFR HZ
  go_enter Try.func6, Try.ntmps6
  go_upto_if 37 with (go_at_call 24; refine (awake10_any _).mono ?_; rintro e w1 ⟨rfl, hb⟩; have HB1 := Lib.hid hb; clear hb)
  go_cut [0] from 24 to 55 (fun a wx => a = .int .i64 mo ∧ wx = w1)
  case first =>
    rcases HSEL.out with ⟨rfl, e⟩ | ⟨rfl, e⟩
    · rw [e] at CW0
      clear e
      go_wp2_with (go_at_call 11; (with_reducible refine (CW0.out _).mono ?_); rintro e w' ⟨rfl, rfl⟩)
      go_meet
      exact ⟨rfl, rfl⟩
    · go_wp2_with fail
      go_meet
      exact ⟨rfl, rfl⟩
  case rest =>
    obtain ⟨rfl, rfl⟩ := hcut
    go_upto_if 50 with (first
      | (go_at_call 25
         (with_reducible refine (CN.out _).mono ?_)
         rintro e w2 ⟨g, p, rfl, hr, hg, hp, hb⟩
         have HB2 := Lib.hid (HB1.out.trans (hb.mono HB1.out.size))
         have HF2 := Lib.hid hr
         have HGP : Hid (w.heap.size ≤ g ∧ w.heap.size ≤ p) := by have := HB1.out.size; show _ ∧ _; omega
         clear hr hg hp hb)
      | (go_at_call 26
         (with_reducible refine (CD.out _).mono ?_)
         rintro e w3 ⟨y, x, rfl, hr, hy, hx, hb⟩
         have HB3 := Lib.hid (HB2.out.trans (hb.mono HB2.out.size))
         have HB23 := Lib.hid hb
         have HD3 := Lib.hid hr
         have HYX := Lib.hid (And.intro hy hx)
         have C3 := Lib.hid (CR.out w3 HB3.out)
         clear hr hy hx hb)
      | (go_at_call 27
         (with_reducible refine C3.out.mono ?_)
         rintro e w4 ⟨B, d, m, rfl, hl, ho, hb⟩
         have HB34 := Lib.hid hb
         have HB4 : Hid (Below w.heap.size w w4) := HB3.out.trans (hb.mono HB3.out.size)
         have HO4 := Lib.hid ho
         have HRV4 := Lib.hid (HR3.out w4 HB4.out)
         have hm4 : m ≤ 4000 := by have := HL.out; omega
         have HLM := Lib.hid hl
         clear ho hb hl)
      | (at_builtin
         refine wpList_append_row _ (o := ⟨some 49, _, _, _, _, _⟩) rfl (.tmp 47) (.tmp 48) 22 rfl w3.heap.size 5 (.int .u8 0) 1 Try.underlying22 info5 rfl (.slice B m d) m _ rfl HO4.out _ A3 m3 c3 _ rfl HRV4.out (one_cells _ _) (by have := HM3.out; omega) (by omega) HB34.out.size ?_
         intro v5 w5 hown5 hg5 hat5
         obtain ⟨A5', c5', rfl⟩ := own_slice hown5
         have HO5 := Lib.hid hown5
         have HB35 := Lib.hid (below_append HB34.out HO4.out hg5 HB34.out.size)
         clear hown5 hg5 hat5))
    go_cut [15] from 24 to 55 (fun b wx => ∃ (A : Option Addr) (m d : Nat) (bs : List Int), b = .slice A m d ∧ m ≤ 5000 ∧ Hid (PInv w g y x A m d bs wx))
    case first =>
      cases a4 with
      | false =>
        go_wp2_with fail
        go_meet
        refine ⟨A5', m + m3, c5', all ++ ms, rfl, by have := HM3.out; omega, ?_⟩
        have ho := HO5.out
        rw [← List.map_append] at ho
        exact pi_start HF2.out HGP.out.1 HGP.out.2 HD3.out HB23.out HYX.out.1 HYX.out.2 HB35.out ho (fun v hv => by rcases List.mem_append.1 hv with hv | hv; exact HXA.out v hv; exact HX3.out v hv) HB3.out
      | true =>
        have HBW5 : Hid (Below w.heap.size w w5) := HB3.out.trans (HB35.out.mono HB3.out.size)
        have HRV5 := Lib.hid (HR3.out w5 HBW5.out)
        have HON : Hid (w5.ownsRow w3.heap.size 5 1 (.slice none 0 0) 0 []) := own_none _ _ _
        go_wp2_with (first
          | (at_builtin
             refine wpList_append_row _ (o := ⟨some 52, _, _, _, _, _⟩) rfl (.const (.slice none 0 0)) (.tmp 51) 22 rfl w3.heap.size 5 (.int .u8 0) 1 Try.underlying22 info5 rfl (.slice none 0 0) 0 _ rfl HON.out _ A3 m3 c3 _ rfl HRV5.out (one_cells _ _) (by have := HM3.out; omega) (by omega) HB35.out.size ?_
             intro v6 w6 hown6 hg6 hat6
             obtain ⟨A6', c6', rfl⟩ := own_slice hown6
             have HB36 := Lib.hid (below_append HB35.out HON.out hg6 HB35.out.size)
             rw [Nat.zero_add] at hown6 ⊢
             have HO6 := Lib.hid hown6
             have C6 := Lib.hid (CR.out w6 (HB3.out.trans (HB36.out.mono HB3.out.size)))
             clear hown6 hg6 hat6)
          | (go_at_call 27
             (with_reducible refine C6.out.mono ?_)
             rintro e w7 ⟨B7, d7, m7, rfl, hl, ho, hb⟩
             have HB37 : Hid (Below w3.heap.size w3 w7) := HB36.out.trans (hb.mono HB36.out.size)
             have HO7 := Lib.hid (own_keep HO6.out hb)
             have HRV7 := Lib.hid (own_row ho)
             have hm7 : m7 ≤ 4000 := by have := HL.out; omega
             clear ho hb hl)
          | (at_builtin
             refine wpList_append_row _ (o := ⟨some 55, _, _, _, _, _⟩) rfl (.tmp 52) (.tmp 54) 22 rfl w3.heap.size 5 (.int .u8 0) 1 Try.underlying22 info5 rfl (.slice A6' m3 c6') m3 _ rfl HO7.out _ B7 m7 d7 _ rfl HRV7.out (one_cells _ _) (by have := HM3.out; omega) (by omega) HB37.out.size ?_
             intro v8 w8 hown8 hg8 hat8
             obtain ⟨A8', c8', rfl⟩ := own_slice hown8
             have HO8 := Lib.hid hown8
             have HB38 := Lib.hid (below_append HB37.out HO7.out hg8 HB37.out.size)
             clear hown8 hg8 hat8))
        go_meet
        refine ⟨A8', m3 + m7, c8', ms ++ all, rfl, by have := HM3.out; omega, ?_⟩
        have ho := HO8.out
        rw [List.nil_append, ← List.map_append] at ho
        exact pi_start HF2.out HGP.out.1 HGP.out.2 HD3.out HB23.out HYX.out.1 HYX.out.2 HB38.out ho (fun v hv => by rcases List.mem_append.1 hv with hv | hv; exact HX3.out v hv; exact HXA.out v hv) HB3.out
    case rest =>
      obtain ⟨A, m, d, bs, rfl, hm5, HI⟩ := hcut
      clear CN CD CR C3 HB2 HF2 HGP HB3 HB23 HD3 HYX HB34 HB4 HO4 HRV4 HLM HO5 HB35 HL HXA HR3 HX3 HM3 HSEL CW0
      go_wp2_with fail
      obtain ⟨wo, hwo⟩ : ∃ wo, wo = wc := ⟨_, rfl⟩
      subst hwo
      go_loopw [15, 16] (fun b i wr => ∃ (k m d : Nat) (A : Option Addr) (bs : List Int), k ≤ S ∧ m ≤ 5000 ∧ b = .slice A m d ∧ i = .int .i64 (k : Int) ∧ Hid (PInv w g y x A m d bs wr)) (fun _ i _ => S - (intOf i).toNat)
      case atStart => exact ⟨0, m, d, A, bs, by omega, hm5, rfl, rfl, HI⟩
      case round =>
        obtain ⟨k, m, d, A, bs, hk, hm5, rfl, rfl, HI⟩ := hrel
        by_cases hlt : k < S
        · obtain ⟨p0, f, M, Md, base, qs, dd, hPI⟩ := HI.out
          have HP := Lib.hid hPI
          clear hPI
          obtain ⟨b5, off5, hA5, hb5, hc5⟩ := (HR5.out _ HP.out.bel).2 (by omega)
          obtain ⟨z, hz⟩ : ∃ z, ss.getD k 0 = z := ⟨_, rfl⟩
          subst hA5
          have hcell : wr.cell? ⟨b5, off5 + k, none⟩ = some (.int .i64 z) := by rw [hc5 k hlt, hz]
          have hzb := HS0.out k hlt
          rw [hz] at hzb
          have CW := Lib.hid (fun W => within_any z 3 W hzb.1 hzb.2 (by omega) (by omega))
          obtain ⟨v3, hv3⟩ : ∃ v3, z % 3 = v3 := ⟨_, rfl⟩
          obtain ⟨D, hD⟩ := Int.eq_ofNat_of_zero_le (show (0 : Int) ≤ (z.tdiv 3) % 60 by omega)
          have hD60 : D < 60 := by omega
          have CDG := Lib.hid (fun W => digit_by z 3 60 D W hD hzb.1 hzb.2 (by omega) (by omega) (by omega) (by omega))
          rw [hv3] at CW
          have hki : (k : Int) < (S : Int) := by omega
          clear hc5 hz hzb hv3 hD
          go_upto_if 67 with (go_at_call 11; (with_reducible refine (CW.out _).mono ?_); rintro e w' ⟨rfl, rfl⟩)
          go_cut [15] from 56 to 163 (fun b wx => ∃ (A' : Option Addr) (m' d' : Nat) (bs' : List Int), b = .slice A' m' d' ∧ m' ≤ m ∧ Hid (PInv w g y x A' m' d' bs' wx))
          case first =>
            by_cases h2 : v3 < 2
            · go_upto_region 15 with fail
              go_cut [17] from 56 to 163 (fun n wx => ∃ N : Nat, N ≤ m ∧ N ≤ 60 ∧ n = .int .i64 (N : Int) ∧ wx = wr)
              case first =>
                by_cases hDm : m < D
                all_goals
                  go_wp2_with (go_at_call 28; (with_reducible refine (CDG.out _).mono ?_); rintro e w' ⟨rfl, rfl⟩)
                all_goals
                  go_meet
                  first
                    | exact ⟨m, Nat.le_refl _, by omega, rfl, rfl⟩
                    | exact ⟨D, by omega, by omega, rfl, rfl⟩
              case rest =>
                obtain ⟨N, hN, hN6, rfl, rfl⟩ := hcut
                obtain ⟨N', hN'⟩ : ∃ N', N' = min N (M - qs.length) := ⟨_, rfl⟩
                have hNd : N ≤ d := by have := HP.out.cap; omega
                have hNi : (N : Int) ≤ (d : Int) := by omega
                have hNm : (N : Int) ≤ (m : Int) := by omega
                have CL := Lib.hid (lent_all A N d (bs.take N) wc (HP.out.row.take N hN).row (by omega))
                have CF := Lib.hid (fun w1 hb hL => HP.out.feeds N N' hN hN6 hN' w1 hb hL)
                have CDF := Lib.hid (fun w1 w2 hb ho => HP.out.dfeeds N N' hN hN6 hN' w1 w2 hb ho)
                clear hN'
                go_upto_region 20 with (first
                  | (go_at_call 12
                     (with_reducible refine CL.out.mono ?_)
                     rintro e w6 ⟨rfl, _, _, hW6, hb6, _⟩
                     have HB6 := Lib.hid hb6
                     have HW6 := Lib.hid hW6
                     have CF6 := Lib.hid (CF.out w6 hb6 hW6)
                     clear hW6 hb6)
                  | (go_at_call 29
                     (with_reducible refine CF6.out.mono ?_)
                     rintro e w7 ⟨rfl, hf7, ho7⟩
                     have HF7 := Lib.hid hf7
                     have HO7 := Lib.hid ho7
                     have CD7 := Lib.hid (CDF.out w6 w7 HB6.out ho7)
                     clear hf7 ho7)
                  | (go_at_call 30
                     (with_reducible refine CD7.out.mono ?_)
                     rintro e w8 ⟨rfl, hd8, ho8⟩
                     have HF8 := Lib.hid (HP.out.fed N N' hN w6 w7 w8 HB6.out HW6.out HF7.out HO7.out hd8 ho8)
                     have C9 := Lib.hid (stays_any A N d wc.heap.size (bs.take N) w8 HF8.out.1 HF8.out.2.1 (by omega))
                     clear hd8 ho8)
                  | (go_at_call 16
                     (with_reducible refine C9.out.mono ?_)
                     rintro e w9 ⟨rfl, d9, rfl⟩))
                go_cut [15] from 56 to 163 (fun b wx => ∃ A', b = .slice A' (m - N) (d - N) ∧ ((d = N ∧ A' = A) ∨ A' = A.map fun x => x.add N) ∧ wx = w8.drewN d9)
                case first =>
                  rcases A with _ | ad
                  · have hd0 := HP.out.nil rfl
                    have hc0 := HP.out.cap
                    obtain rfl : N = 0 := by omega
                    obtain rfl : d = 0 := hd0
                    obtain rfl : m = 0 := by omega
                    go_wp2_with fail
                    go_meet
                    first
                      | exact ⟨none, rfl, .inl ⟨rfl, rfl⟩, rfl⟩
                      | (refine ⟨none, ?_⟩; simp)
                  · by_cases hdN : d = N
                    · go_wp2_with fail
                      go_meet
                      exact ⟨some ad, by rw [hdN, Nat.sub_self], .inl ⟨hdN, rfl⟩, rfl⟩
                    · go_wp2_with fail
                      go_meet
                      exact ⟨some (ad.add N), rfl, .inr rfl, rfl⟩
                case rest =>
                  obtain ⟨A', rfl, hA', rfl⟩ := hcut
                  go_wp2_with fail
                  go_meet
                  exact ⟨A', m - N, d - N, bs.drop N, rfl, by omega, HF8.out.2.2 A' _ hA' (below_drewN (Below.refl _ _) _)⟩
            · have CX := Lib.hid (nexts_any wr g p0 M f qs dd HP.out.fl)
              have CDX := Lib.hid (fun w1 w2 ho hb => HP.out.dnexts w1 w2 ho hb)
              obtain ⟨T, hT⟩ : ∃ T, cT qs = T := ⟨_, rfl⟩
              obtain ⟨U, hU⟩ : ∃ U, cU qs = U := ⟨_, rfl⟩
              obtain ⟨L, hL⟩ : ∃ L, cM qs = L := ⟨_, rfl⟩
              unfold NextGotS at CX
              unfold DNextGot at CDX
              rw [hT, hU, hL] at CX CDX
              have hyx : y < wr.heap.size ∧ x < wr.heap.size := ⟨HP.out.dl.head.lt, Nat.lt_of_lt_of_le HP.out.dl.ref.lt HP.out.dl.ref.le⟩
              have HYX := Lib.hid hyx
              clear hT hU hL hyx
              go_wp2_with (first
                | (go_at_call 31
                   (with_reducible refine CX.out.mono ?_)
                   rintro e w6 ⟨B6, k6, rfl, ho6, ⟨f6, p6, hf6, hp6⟩, hoff6⟩
                   have HB6 : Hid (Below w6.heap.size w6 (w6.alloc (.cells #[.int .i64 T, .int .i64 U, .slice B6 L k6] 64))) := (Below.refl _ _).alloc (Nat.le_refl _) _
                   have HX6 : Hid (WholeV (w6.alloc (.cells #[.int .i64 T, .int .i64 U, .slice B6 L k6] 64)) w6.heap.size 64 [.int .i64 T, .int .i64 U, .slice B6 L k6]) := heap_alloc_new w6 _
                   have HO6 := Lib.hid (ho6.alloc (.cells #[.int .i64 T, .int .i64 U, .slice B6 L k6] 64))
                   have C7 := Lib.hid (CDX.out w6 (w6.alloc (.cells #[.int .i64 T, .int .i64 U, .slice B6 L k6] 64)) hoff6 HB6.out)
                   have HN := Lib.hid (fun w3 hd ho2 wx hx => HP.out.nexted w6 (w6.alloc (.cells #[.int .i64 T, .int .i64 U, .slice B6 L k6] 64)) w3 f6 p6 hf6 hp6 hoff6 HB6.out hd ho2 wx hx)
                   have HS6 : Hid (wr.heap.size ≤ w6.heap.size) := hoff6.size
                   clear ho6 hf6 hp6 hoff6)
                | (go_at_call 32
                   (with_reducible refine C7.out.mono ?_)
                   rintro e w7 ⟨B7, k7, rfl, ho7, hd7, hoff7⟩
                   have HB7 : Hid (Below w7.heap.size w7 (w7.alloc (.cells #[.int .i64 T, .int .i64 U, .slice B7 L k7] 67))) := (Below.refl _ _).alloc (Nat.le_refl _) _
                   have h1 : WholeV w7 w6.heap.size 64 [.int .i64 T, .int .i64 U, .slice B6 L k6] := hoff7.whole HX6.out (fun e => by have h1 := HYX.out; have h2 := HS6.out; rcases e with e | e <;> omega)
                   have h2 : WholeV (w7.alloc (.cells #[.int .i64 T, .int .i64 U, .slice B7 L k7] 67)) w6.heap.size 64 [.int .i64 T, .int .i64 U, .slice B6 L k6] := h1.below HB7.out h1.lt
                   have h3 : WholeV (w7.alloc (.cells #[.int .i64 T, .int .i64 U, .slice B7 L k7] 67)) w7.heap.size 67 [.int .i64 T, .int .i64 U, .slice B7 L k7] := heap_alloc_new w7 _
                   have a0 := h2.cell 0
                   have a1 := h2.cell 1
                   have a2 := h2.cell 2
                   have e0 := h3.cell 0
                   have e1 := h3.cell 1
                   have e2 := h3.cell 2
                   simp only [List.getElem?_cons_succ, List.getElem?_cons_zero] at a0 a1 a2 e0 e1 e2
                   have o1 := (hoff7.own HO6.out (fun k hk _ e => by have h1 := HYX.out; rcases e with e | e <;> omega)).alloc (.cells #[.int .i64 T, .int .i64 U, .slice B7 L k7] 67)
                   have cv1 := conv_row B6 L k6 (cP qs) _ (own_row o1).ints
                   have cv2 := conv_row B7 L k7 (cP qs) _ (own_row (ho7.alloc (.cells #[.int .i64 T, .int .i64 U, .slice B7 L k7] 67))).ints
                   obtain ⟨str, hstr⟩ : ∃ str, strOfNums (cP qs) = str := ⟨_, rfl⟩
                   rw [hstr] at cv1 cv2
                   have HI7 := Lib.hid (HN.out w7 hd7 hoff7 _ HB7.out)
                   clear ho7 hd7 hoff7 h1 h2 h3 o1 hstr))
              go_meet
              exact ⟨A, m, d, bs, rfl, Nat.le_refl _, HI7⟩
          case rest =>
            obtain ⟨A', m', d', bs', rfl, hm', HI'⟩ := hcut
            obtain ⟨p9, f9, M9, Md9, base9, qs9, dd9, hP9⟩ := HI'.out
            have HP9 := Lib.hid hP9
            obtain ⟨A9, c9, hg9, _⟩ := hP9.dl.ref.row
            have hy9 := hP9.dl.head
            have hyl := hy9.lt
            have hxl := hg9.lt
            have CH := Lib.hid (fun W (hW : Below wc.heap.size wc W) => fheld_any W g p9 M9 f9 qs9 dd9 (hP9.fl.below hW))
            have CB := Lib.hid (fun W (hW : Below wc.heap.size wc W) => fbad_any W g p9 M9 f9 qs9 dd9 (hP9.fl.below hW))
            have CY : Hid (∀ W, Below wc.heap.size wc W → Calls Try.prog 35 #[.pointer (some ⟨g, 0, none⟩)] W fun e w' => e = .returned (.bool (gE dd9 qs9 != 3)) ∧ Below wc.heap.size wc w') := fun W hW => (ready_any W g p9 M9 f9 qs9 dd9 (hP9.fl.below hW)).mono fun e w' h => ⟨h.1, hW.trans (h.2.mono hW.size)⟩
            have CYD : Hid (∀ W, Below wc.heap.size wc W → Calls Try.prog 36 #[.pointer (some ⟨y, 0, none⟩)] W fun e w' => e = .returned (.bool (gE dd9 qs9 != 3)) ∧ Below wc.heap.size wc w') := fun W hW => (dready_any W y x base9 Md9 qs9 dd9 (hP9.dl.below hW)).mono fun e w' h => ⟨h.1, hW.trans (h.2.mono hW.size)⟩
            have k0 := hy9.cell 0
            have k1 := hy9.cell 1
            have k2 := hg9.cell 1
            simp only [List.getElem?_cons_succ, List.getElem?_cons_zero] at k0 k1 k2
            have KS : Hid (∀ W, Below wc.heap.size wc W → W.cell? ⟨y, 0, none⟩ = some (.pointer (some ⟨x, 0, none⟩)) ∧ W.cell? ⟨y, 1, none⟩ = some (.bool dd9) ∧ W.cell? ⟨x, 1, none⟩ = some (.slice A9 qs9.length c9) ∧ Below wc.heap.size wc W) :=
              fun W hW => ⟨(hW.cell (p := ⟨y, 0, none⟩) hyl).trans k0, (hW.cell (p := ⟨y, 1, none⟩) hyl).trans k1, (hW.cell (p := ⟨x, 1, none⟩) hxl).trans k2, hW⟩
            obtain ⟨q9, hq9⟩ : ∃ q9, qs9.length = q9 := ⟨_, rfl⟩
            obtain ⟨r9, hr9⟩ : ∃ r9, (gE dd9 qs9 != 3) = r9 := ⟨_, rfl⟩
            rw [hq9] at CH KS
            rw [hr9] at CY CYD
            clear hP9 hg9 hy9 k0 k1 k2 hyl hxl hq9 hr9
            go_wp2_with fail
            go_region_held (fun W => W.cell? ⟨y, 0, none⟩ = some (.pointer (some ⟨x, 0, none⟩)) ∧ W.cell? ⟨y, 1, none⟩ = some (.bool dd9) ∧ W.cell? ⟨x, 1, none⟩ = some (.slice A9 q9 c9) ∧ Below wc.heap.size wc W)
              (first | exact KS.out _ (Below.refl _ _).drew | exact KS.out _ (below_drewN (Below.refl _ _) _) | exact KS.out _ hb93 | exact KS.out _ hb92 | exact KS.out _ (by assumption))
              (first
                | (go_at_call 33
                   refine (CH.out _ ?_).mono ?_
                   · first | assumption | exact (Below.refl _ _).drew | exact below_drewN (Below.refl _ _) _
                   rintro e w91 ⟨rfl, rfl⟩)
                | (go_at_call 34
                   refine (CB.out _ ?_).mono ?_
                   · first | assumption | exact (Below.refl _ _).drew | exact below_drewN (Below.refl _ _) _
                   rintro e w91 ⟨rfl, rfl⟩)
                | (go_at_call 35
                   refine (CY.out _ ?_).mono ?_
                   · first | assumption | exact (Below.refl _ _).drew | exact below_drewN (Below.refl _ _) _
                   rintro e w92 ⟨rfl, hb92⟩)
                | (go_at_call 36
                   refine (CYD.out _ ?_).mono ?_
                   · first | assumption | exact (Below.refl _ _).drew | exact below_drewN (Below.refl _ _) _
                   rintro e w93 ⟨rfl, hb93⟩))
            all_goals
              go_wp2_with fail
              go_roundw
              case rel =>
                first
                  | exact ⟨k + 1, m', d', A', bs', by omega, by omega, rfl, by go_num, ⟨p9, f9, M9, Md9, base9, qs9, dd9, HP9.out.below (by first | exact hb93 | exact hb92 | assumption | exact (Below.refl _ _).drew)⟩⟩
                  | (repeat apply Exists.intro
                     exact ⟨⟨k + 1, m', d', A', bs', by omega, by omega, rfl, by go_num, ⟨p9, f9, M9, Md9, base9, qs9, dd9, HP9.out.below (by first | exact hb93 | exact hb92 | assumption | exact (Below.refl _ _).drew)⟩⟩, rfl⟩)
              case measure => simp [intOf]; omega
        · obtain rfl : S = k := by omega
          have hki : ¬ (S : Int) < (S : Int) := by omega
          obtain ⟨p9, f9, M9, Md9, base9, qs9, dd9, hP9⟩ := HI.out
          have HP9 := Lib.hid hP9
          obtain ⟨A9, c9, hg9, _⟩ := hP9.dl.ref.row
          have hy9 := hP9.dl.head
          have hyl := hy9.lt
          have hxl := hg9.lt
          have CH := Lib.hid (fun W (hW : Below wr.heap.size wr W) => fheld_any W g p9 M9 f9 qs9 dd9 (hP9.fl.below hW))
          have CB := Lib.hid (fun W (hW : Below wr.heap.size wr W) => fbad_any W g p9 M9 f9 qs9 dd9 (hP9.fl.below hW))
          have CY : Hid (∀ W, Below wr.heap.size wr W → Calls Try.prog 35 #[.pointer (some ⟨g, 0, none⟩)] W fun e w' => e = .returned (.bool (gE dd9 qs9 != 3)) ∧ Below wr.heap.size wr w') := fun W hW => (ready_any W g p9 M9 f9 qs9 dd9 (hP9.fl.below hW)).mono fun e w' h => ⟨h.1, hW.trans (h.2.mono hW.size)⟩
          have CYD : Hid (∀ W, Below wr.heap.size wr W → Calls Try.prog 36 #[.pointer (some ⟨y, 0, none⟩)] W fun e w' => e = .returned (.bool (gE dd9 qs9 != 3)) ∧ Below wr.heap.size wr w') := fun W hW => (dready_any W y x base9 Md9 qs9 dd9 (hP9.dl.below hW)).mono fun e w' h => ⟨h.1, hW.trans (h.2.mono hW.size)⟩
          have k0 := hy9.cell 0
          have k1 := hy9.cell 1
          have k2 := hg9.cell 1
          simp only [List.getElem?_cons_succ, List.getElem?_cons_zero] at k0 k1 k2
          have KS : Hid (∀ W, Below wr.heap.size wr W → W.cell? ⟨y, 0, none⟩ = some (.pointer (some ⟨x, 0, none⟩)) ∧ W.cell? ⟨y, 1, none⟩ = some (.bool dd9) ∧ W.cell? ⟨x, 1, none⟩ = some (.slice A9 qs9.length c9) ∧ Below wr.heap.size wr W) :=
            fun W hW => ⟨(hW.cell (p := ⟨y, 0, none⟩) hyl).trans k0, (hW.cell (p := ⟨y, 1, none⟩) hyl).trans k1, (hW.cell (p := ⟨x, 1, none⟩) hxl).trans k2, hW⟩
          obtain ⟨q9, hq9⟩ : ∃ q9, qs9.length = q9 := ⟨_, rfl⟩
          obtain ⟨r9, hr9⟩ : ∃ r9, (gE dd9 qs9 != 3) = r9 := ⟨_, rfl⟩
          rw [hq9] at CH KS
          rw [hr9] at CY CYD
          clear hP9 hg9 hy9 k0 k1 k2 hyl hxl hq9 hr9
          go_wp2_with fail
          go_region_held (fun W => W.cell? ⟨y, 0, none⟩ = some (.pointer (some ⟨x, 0, none⟩)) ∧ W.cell? ⟨y, 1, none⟩ = some (.bool dd9) ∧ W.cell? ⟨x, 1, none⟩ = some (.slice A9 q9 c9) ∧ Below wr.heap.size wr W)
            (first | exact KS.out _ (Below.refl _ _).drew | exact KS.out _ (below_drewN (Below.refl _ _) _) | exact KS.out _ hb93 | exact KS.out _ hb92 | exact KS.out _ (by assumption))
            (first
              | (go_at_call 33
                 refine (CH.out _ ?_).mono ?_
                 · first | assumption | exact (Below.refl _ _).drew | exact below_drewN (Below.refl _ _) _
                 rintro e w91 ⟨rfl, rfl⟩)
              | (go_at_call 34
                 refine (CB.out _ ?_).mono ?_
                 · first | assumption | exact (Below.refl _ _).drew | exact below_drewN (Below.refl _ _) _
                 rintro e w91 ⟨rfl, rfl⟩)
              | (go_at_call 35
                 refine (CY.out _ ?_).mono ?_
                 · first | assumption | exact (Below.refl _ _).drew | exact below_drewN (Below.refl _ _) _
                 rintro e w92 ⟨rfl, hb92⟩)
              | (go_at_call 36
                 refine (CYD.out _ ?_).mono ?_
                 · first | assumption | exact (Below.refl _ _).drew | exact below_drewN (Below.refl _ _) _
                 rintro e w93 ⟨rfl, hb93⟩))
          all_goals
            go_wp2_with fail
            go_ret
            exact ⟨rfl, (HP9.out.below (by first | assumption | exact (Below.refl _ _).drew | exact Below.refl _ _)).bel⟩

set_option maxRecDepth 100000 in
theorem walk_long (a0 : Int) (a1 : Bool) (A2 : Option Addr) (n2 c2 : Nat) (A3 : Option Addr) (m3 c3 : Nat) (a4 : Bool) (A5 : Option Addr) (S c5 : Nat) (w : World) (h : 100 < m3 ∨ (¬ 100 < m3 ∧ 100 < S)) :
    Calls Try.prog 6 #[.int .i64 a0, .bool a1, .slice A2 n2 c2, .slice A3 m3 c3, .bool a4, .slice A5 S c5] w fun e w' => e = .returned (.bool true) ∧ Below w.heap.size w w' := by
  rcases h with h | ⟨h, h2⟩
  all_goals
    try have h3 : (100 : Int) < (m3 : Int) := by omega
    try have h3 : ¬ (100 : Int) < (m3 : Int) := by omega
    try have h4 : (100 : Int) < (S : Int) := by omega
    clear h
    go_enter Try.func6, Try.ntmps6
    go_wp2_with (go_at_call 24; refine (awake10_any _).mono ?_; rintro e w1 ⟨rfl, hb⟩; have HB1 := Lib.hid hb; clear hb)
    go_ret
    exact ⟨rfl, HB1.out⟩

theorem row_bounds {w : World} {A : Option Addr} {n c : Nat} {z : List Int} (h : IsRow .i64 w A n c z) : ∀ i, i < n → -9223372036854775808 ≤ (z.take n).getD i 0 ∧ (z.take n).getD i 0 ≤ 9223372036854775807 := fun i hi => by
  have hl := h.row.1
  exact bounds_i64 (h.wf ((z.take n).getD i 0) (by rw [List.getD_eq_getElem?_getD, List.getElem?_eq_getElem (by omega)]; exact List.getElem_mem _))

theorem walk (a0 : Int) (a1 : Bool) (a2 : Option Addr) (len2 cap2 : Nat) (z2 : List Int) (a3 : Option Addr) (len3 cap3 : Nat) (z3 : List Int) (a4 : Bool) (a5 : Option Addr) (len5 cap5 : Nat) (z5 : List Int) (w : World) (w0 : (Lit.int .i64 a0).wf = true) (w2 : IsRow .i64 w a2 len2 cap2 z2) (w3 : IsRow .u8 w a3 len3 cap3 z3) (w5 : IsRow .i64 w a5 len5 cap5 z5) :
    Calls Try.prog 6 #[.int .i64 a0, .bool a1, .slice a2 len2 cap2, .slice a3 len3 cap3, .bool a4, .slice a5 len5 cap5] w fun e w' => e = .returned (.bool true) ∧ Below w.heap.size w w' := by
  by_cases hn : 100 < len3
  · exact walk_long _ _ _ _ _ _ _ _ _ _ _ _ w (.inl hn)
  by_cases hm : 100 < len5
  · exact walk_long _ _ _ _ _ _ _ _ _ _ _ _ w (.inr ⟨hn, hm⟩)
  have hf : ∀ i, ∃ zs, i < min len2 12 → FIs ((z2.take len2).getD i 0) zs := by
    intro i
    by_cases hi : i < min len2 12
    · have hk := row_bounds w2 i (by omega)
      obtain ⟨zs, h⟩ := fis_some _ hk.1 hk.2
      exact ⟨zs, fun _ => h⟩
    · exact ⟨[], fun h => absurd h hi⟩
  have hc : ∃ fs : Nat → List Int, ∀ i, i < min len2 12 → FIs ((z2.take len2).getD i 0) (fs i) := ⟨fun i => (hf i).choose, fun i hi => (hf i).choose_spec hi⟩
  obtain ⟨fs, hfs⟩ := hc
  obtain ⟨mo, hmo⟩ : ∃ mo, mo = if a1 = true then a0 % 600 else a0 := ⟨_, rfl⟩
  have hsel : (a1 = true ∧ a0 % 600 = mo) ∨ (a1 = false ∧ a0 = mo) := by
    cases a1 with
    | true => exact .inl ⟨rfl, by rw [hmo, if_pos rfl]⟩
    | false => exact .inr ⟨rfl, by rw [hmo]; rfl⟩
  refine plays_main a0 a1 a2 len2 cap2 _ a3 len3 cap3 _ a4 a5 len5 cap5 _ fs mo (if mo < 260 then 260 else if 65536 < mo then 65536 else mo.toNat) _ w (bounds_i64 w0) hsel ?_ w2.row rfl hfs w3.row w3.bytes (by omega) w5.row (row_bounds w5) (by omega)
  by_cases h1 : mo < 260
  · rw [if_pos h1]; exact .inl ⟨h1, rfl⟩
  · rw [if_neg h1]
    by_cases h2 : 65536 < mo
    · rw [if_pos h2]; exact .inr (.inl ⟨h2, rfl⟩)
    · rw [if_neg h2]; exact .inr (.inr (by omega))

/-! ### THE ROW's STEP: WRITTEN OUT: LEAVE IT -/
set_option maxRecDepth 100000 in
theorem lifted (os : Os) (started : os.Started) (H : Type) (enc : TypeId × Value → H) :
    ReturnsInHanded {} Try.checked os 6 .any (Rows.flowPlaysSpec.pre6 enc Try.prog Try.f6 Rows.flowPlaysRow.domain false) (Rows.flowPlaysSpec.post enc Try.prog Try.f6 false true false false) := by
  refine returnsInHanded_of_change (C := Try.checked) own started (by kernel_rfl) Try.func6
    (ChangeSpec.witness6 (enc := enc) (C := Try.checked) false ⟨#[], #[.int .i64 0, .bool false, .slice none 0 0, .slice none 0 0, .bool false, .slice none 0 0], []⟩ 8 (by kernel_rfl) (by kernel_rfl) (by kernel_rfl) (by kernel_rfl)) ?_
  intro W base args ds gs before hval0 hW hcnd _
  have hval : ∀ (j : Nat) t v, Try.f6.params[j]? = some t → args[j]? = some v → Value.okWide Try.prog W .any base t v := hval0
  have hW' := hW
  obtain ⟨p, q, hA0, hV, rfl, hfz, hnd⟩ := hW
  have hA : DataW.TrodAll enc Try.prog W 0 (fun _ => true) true Try.f6.params.toList args.toList ds p := hA0
  rw [Try.params6] at hA hval
  obtain ⟨v0, vs0, d0, ds0, p0, q0, hargs, rfl, rfl, h0, r0⟩ := trodAll_cons hA
  obtain ⟨v1, vs1, d1, ds1, p1, q1, rfl, rfl, rfl, h1, r1⟩ := trodAll_cons r0
  obtain ⟨v2, vs2, d2, ds2, p2, q2, rfl, rfl, rfl, h2, r2⟩ := trodAll_cons r1
  obtain ⟨v3, vs3, d3, ds3, p3, q3, rfl, rfl, rfl, h3, r3⟩ := trodAll_cons r2
  obtain ⟨v4, vs4, d4, ds4, p4, q4, rfl, rfl, rfl, h4, r4⟩ := trodAll_cons r3
  obtain ⟨v5, vs5, d5, ds5, p5, q5, rfl, rfl, rfl, h5, r5⟩ := trodAll_cons r4
  obtain ⟨rfl, rfl, rfl⟩ := trodAll_nil r5
  obtain rfl : args = #[v0, v1, v2, v3, v4, v5] := by cases args; simp_all
  obtain ⟨rfl, rfl⟩ := trodVars_none hV
  obtain ⟨a0, rfl, rfl, rfl, w0⟩ := open_int Try.underlying3 (hval 0 3 v0 rfl rfl) h0
  obtain ⟨a1, rfl, rfl, rfl⟩ := open_bool Try.underlying4 (hval 1 4 v1 rfl rfl) h1
  obtain ⟨a2, len2, cap2, rfl⟩ := okWide_slice Try.underlying43 (hval 2 43 v2 rfl rfl)
  have k2 := h2
  have lt2 : ∀ x ∈ p2, x.block < W.heap.size := by obtain ⟨m, hm⟩ := k2; exact DataW.trod_lt m _ _ _ hm
  obtain ⟨z2, w2⟩ : ∃ zs, IsRow .i64 W a2 len2 cap2 zs := by
    obtain ⟨fuel, hf⟩ := h2
    rcases open_ints Try.underlying43 Try.underlying3 (by kernel_rfl) hf with ⟨hcs, _⟩ | ⟨x, l, c, zs, hcs, _, hl, hm, hz, _, hcell, hwz⟩
    · simp [Value.cells] at hcs
      obtain ⟨rfl, rfl, rfl⟩ := hcs
      exact ⟨[], .inl ⟨rfl, rfl, rfl, rfl⟩⟩
    · simp [Value.cells] at hcs
      obtain ⟨rfl, rfl, rfl⟩ := hcs
      exact ⟨zs, .inr ⟨_, rfl, hl, hm, by simpa using hz, hcell, hwz⟩⟩
  obtain ⟨a3, len3, cap3, rfl⟩ := okWide_slice Try.underlying22 (hval 3 22 v3 rfl rfl)
  have k3 := h3
  have lt3 : ∀ x ∈ p3, x.block < W.heap.size := by obtain ⟨m, hm⟩ := k3; exact DataW.trod_lt m _ _ _ hm
  obtain ⟨z3, w3⟩ : ∃ zs, IsRow .u8 W a3 len3 cap3 zs := by
    obtain ⟨fuel, hf⟩ := h3
    rcases open_ints Try.underlying22 Try.underlying5 (by kernel_rfl) hf with ⟨hcs, _⟩ | ⟨x, l, c, zs, hcs, _, hl, hm, hz, _, hcell, hwz⟩
    · simp [Value.cells] at hcs
      obtain ⟨rfl, rfl, rfl⟩ := hcs
      exact ⟨[], .inl ⟨rfl, rfl, rfl, rfl⟩⟩
    · simp [Value.cells] at hcs
      obtain ⟨rfl, rfl, rfl⟩ := hcs
      exact ⟨zs, .inr ⟨_, rfl, hl, hm, by simpa using hz, hcell, hwz⟩⟩
  obtain ⟨a4, rfl, rfl, rfl⟩ := open_bool Try.underlying4 (hval 4 4 v4 rfl rfl) h4
  obtain ⟨a5, len5, cap5, rfl⟩ := okWide_slice Try.underlying43 (hval 5 43 v5 rfl rfl)
  have k5 := h5
  have lt5 : ∀ x ∈ p5, x.block < W.heap.size := by obtain ⟨m, hm⟩ := k5; exact DataW.trod_lt m _ _ _ hm
  obtain ⟨z5, w5⟩ : ∃ zs, IsRow .i64 W a5 len5 cap5 zs := by
    obtain ⟨fuel, hf⟩ := h5
    rcases open_ints Try.underlying43 Try.underlying3 (by kernel_rfl) hf with ⟨hcs, _⟩ | ⟨x, l, c, zs, hcs, _, hl, hm, hz, _, hcell, hwz⟩
    · simp [Value.cells] at hcs
      obtain ⟨rfl, rfl, rfl⟩ := hcs
      exact ⟨[], .inl ⟨rfl, rfl, rfl, rfl⟩⟩
    · simp [Value.cells] at hcs
      obtain ⟨rfl, rfl, rfl⟩ := hcs
      exact ⟨zs, .inr ⟨_, rfl, hl, hm, by simpa using hz, hcell, hwz⟩⟩
  clear hA0 hval0
  refine (walk a0 a1 a2 len2 cap2 z2 a3 len3 cap3 z3 a4 a5 len5 cap5 z5 W w0 w2 w3 w5).mono fun e W' ⟨he, bel⟩ => ?_
  subst he
  exact ⟨_, rfl, _, _, _, [], _, [], hW', trodAll_mk1 (shut_bool Try.underlying4 _), (trodAll_cons_mk (shut_int Try.underlying3 w0) (trodAll_cons_mk (shut_bool Try.underlying4 _) (trodAll_cons_mk (Below.trod laidOut (by kernel_rfl) (of_decide_eq_true (by kernel_rfl)) k2 bel lt2) (trodAll_cons_mk (Below.trod laidOut (by kernel_rfl) (of_decide_eq_true (by kernel_rfl)) k3 bel lt3) (trodAll_cons_mk (shut_bool Try.underlying4 _) (trodAll_cons_mk (Below.trod laidOut (by kernel_rfl) (of_decide_eq_true (by kernel_rfl)) k5 bel lt5) trodAll_mk0)))))), rfl, bel.frame _, fun h => by cases h⟩

theorem over : Rows.flowPlaysRow.holds Try.pinned (OpenSpec.ofChange Rows.flowPlaysSpec) :=
  OpenClaim.holds_of_wide 6 Try.f6 rfl rfl rfl rfl rfl rfl rfl ⟨rfl, rfl, rfl, rfl, rfl⟩ rfl rfl rfl rfl rfl (by kernel_rfl) Try.func6 (by kernel_rfl)
    (of_decide_eq_true (by kernel_rfl)) (by unfold Func.isWrapper; first | (rw [if_pos (by decide +kernel)]; kernel_rfl) | (rw [if_neg (by decide +kernel)]; exact ⟨rfl, rfl⟩))
    (fun os started H enc _ => lifted os started H enc)

/-- ████ THE STATEMENT ████ -/
theorem proved : Rows.FlowPlaysSaid := over
#print axioms proved
end Go.Proofs.Ythmendcdfhlkkaa.flowPlays
