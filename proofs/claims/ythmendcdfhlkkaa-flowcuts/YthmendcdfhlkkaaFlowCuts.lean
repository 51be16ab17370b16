/- Proved: for every two slices of ints, busbarlaw10.FlowCuts returns true, and its arguments read as before. Conditions: none. -/
import Derived.Test.YthmendcdfhlkkaaFCutsT
import Derived.Deep.CutRange
namespace Go.Proofs.Ythmendcdfhlkkaa.flowCuts
open Go.ChangeShapes Go.WideShapes Go.ChangeAt Go.RowKit
open Go.ChangeMaps (open_string shut_string)
set_option linter.unusedVariables false


theorem in_room {fr : Nat → List Int} {K w g a A m d qs bs p f wr} (h : CutsInv fr K w g a A m d qs bs p f wr) (hb : ∀ i c, i + c ≤ K → (fcat fr i c).length ≤ 259 * c) (hK : K ≤ 12) : qs.length + bs.length ≤ 4000 := by
  have h1 := congrArg List.length h.cat
  have h2 := h.aK
  have h3 := hb a (K - a) (by omega)
  rw [List.length_append] at h1
  have h4 : 259 * (K - a) ≤ 259 * 12 := Nat.mul_le_mul_left _ (by omega)
  omega

set_option maxRecDepth 100000 in
set_option maxHeartbeats 16000000 in
theorem cuts_main (A0 : Option Addr) (n c0 : Nat) (ks : List Int) (A1 : Option Addr) (S c1 : Nat) (ss : List Int) (fs : Nat → List Int) (w : World) (hr0 : Row .i64 w w.heap.size A0 n ks) (hn : n ≤ 12) (hf : ∀ i, i < n → FIs (ks.getD i 0) (fs i))
    (hk0 : ∀ i, i < n → -9223372036854775808 ≤ ks.getD i 0 ∧ ks.getD i 0 ≤ 9223372036854775807) (hr1 : Row .i64 w w.heap.size A1 S ss) (hs0 : ∀ i, i < S → -9223372036854775808 ≤ ss.getD i 0 ∧ ss.getD i 0 ≤ 9223372036854775807) (hS : S ≤ 60) :
    Calls Try.prog 7 #[.slice A0 n c0, .slice A1 S c1] w fun e w' => e = .returned (.bool true) ∧ Below w.heap.size w w' := by
  have CN := Lib.hid (fun W => fnew_any 65536 65536 W (by omega) (by omega) (by decide))
  have CR := Lib.hid (fun W (hb : Below w.heap.size w W) => row_any A0 n c0 n ks fs W ((hr0.below hb).more hb.size) (by omega) hf)
  obtain ⟨fr, hfr⟩ : ∃ fr, frOf ks fs = fr := ⟨_, rfl⟩
  have HFR : Hid (∀ i, fr i = frB i (ks.getD i 0 % 256) (fs i)) := fun i => by rw [← hfr]; rfl
  rw [hfr] at CR
  have HZ : Hid (∀ i, i < n → Bytes8 (fs i) ∧ 4 ≤ (fs i).length ∧ (fs i).length ≤ 252) := fun i hi => ⟨(hf i hi).1, (hf i hi).2.1, (hf i hi).2.2.1⟩
  have HL : Hid (∀ i c, i + c ≤ n → (fcat fr i c).length ≤ 259 * c) := fun i c hc => fcat_le fr n (fun i hi => by rw [HFR.out, frB_length]; have := HZ.out i hi; omega) c i hc
  have HXA : Hid (∀ i c, i + c ≤ n → Bytes8 (fcat fr i c)) := fun i c hc => fcat_bytes fr n (fun i hi => by rw [HFR.out]; have := HZ.out i hi; exact frB_bytes _ _ _ (by omega) (by omega) (by omega) (by omega) this.1) c i hc
  have HR0 := Lib.hid (fun W (hb : Below w.heap.size w W) => (hr0.below hb).more hb.size)
  have HR1 := Lib.hid (fun W (hb : Below w.heap.size w W) => (hr1.below hb).more hb.size)
  have HF := Lib.hid hf
  have HK0 := Lib.hid hk0
  have HS0 := Lib.hid hs0
  have hni : ¬ (12 : Int) < (n : Int) := by omega
  have hSi : ¬ (60 : Int) < (S : Int) := by omega
  clear hr0 hf hfr hk0 hr1 hs0
  go_enter Try.func7, Try.ntmps7
  go_wp2_with (first
    | (go_at_call 24; refine (awake10_any _).mono ?_; rintro e w1 ⟨rfl, hb⟩; have HB1 := Lib.hid hb; clear hb)
    | (go_at_call 25
       (with_reducible refine (CN.out _).mono ?_)
       rintro e w2 ⟨g, p, rfl, hr, hg, hp, hb⟩
       have HB2 := Lib.hid (HB1.out.trans (hb.mono HB1.out.size))
       have HF2 := Lib.hid hr
       have HGP : Hid (w.heap.size ≤ g ∧ w.heap.size ≤ p) := by have := HB1.out.size; show _ ∧ _; omega
       have C2 := Lib.hid (CR.out w2 HB2.out)
       clear hr hg hp hb)
    | (go_at_call 27
       (with_reducible refine C2.out.mono ?_)
       rintro e w3 ⟨B, d, m, rfl, hl, ho, hb⟩
       have HB3 : Hid (Below w.heap.size w w3) := HB2.out.trans (hb.mono HB2.out.size)
       have HI3 : Hid (CutsInv fr n w g 0 B m d [] (fcat fr 0 n) p 0 w3) := ⟨by omega, by rw [Nat.sub_zero]; rfl, HF2.out.below hb, own_gp HF2.out.q.lt ho, own_capI ho, HGP.out.2, HB3.out⟩
       clear ho hb hl))
  obtain ⟨wo, hwo⟩ : ∃ wo, wo = w3 := ⟨_, rfl⟩
  subst hwo
  have HG := Lib.hid HGP.out.1
  clear C2 CN CR
  go_loopw [6, 7, 8] (fun b at_ i wr => ∃ (k a m d : Nat) (A : Option Addr) (qs bs : List Int) (p' f' : Nat), k ≤ S + 1 ∧ (k = S + 1 → m = 0) ∧ b = .slice A m d ∧ at_ = .int .i64 (a : Int) ∧ i = .int .i64 (k : Int) ∧ Hid (CutsInv fr n w g a A m d qs bs p' f' wr) ∧ Hid (cE qs = 3)) (fun _ _ i _ => S + 1 - (intOf i).toNat)
  case atStart => exact ⟨0, 0, m, d, B, [], _, p, 0, by omega, fun h => by omega, rfl, rfl, rfl, HI3, Lib.hid rfl⟩
  case round =>
    obtain ⟨k, a, m, d, A, qs, bs, p', f', hkS, hkm, rfl, rfl, rfl, HI, HE⟩ := hrel
    have hroom := in_room HI.out HL.out hn
    have hml : bs.length = m := HI.out.row.1
    have hmd := HI.out.cap
    by_cases hm0 : m = 0
    · subst hm0
      have hbs : bs = [] := List.eq_nil_of_length_eq_zero hml
      have hfin : a = n ∧ qs = [] := by
        rcases HI.out.or hn HFR.out HZ.out with ⟨_, h⟩ | ⟨h1, ys, h2, _⟩
        · exact h hbs
        · have hz := HZ.out a h1
          have h3 := (frB_cut a (ks.getD a 0 % 256) (fs a) ys (by omega) (by omega) (by omega) (by omega)).1
          rw [← h2, HE.out] at h3
          cases h3
      obtain ⟨rfl, rfl⟩ := hfin
      have C0 := Lib.hid (fheld_any wr g p' 65536 f' [] false HI.out.fl)
      have C1 := Lib.hid (fbad_any wr g p' 65536 f' [] false HI.out.fl)
      have HB := Lib.hid HI.out.bel
      clear hroom hml hbs hkS hkm
      go_wp2_with (first
        | (go_at_call 33; (with_reducible refine C0.out.mono ?_); rintro e w7 ⟨rfl, rfl⟩)
        | (go_at_call 34; (with_reducible refine C1.out.mono ?_); rintro e w8 ⟨rfl, rfl⟩))
      go_ret
      exact ⟨rfl, HB.out⟩
    · have hmp : (0 : Int) < (m : Int) := by omega
      have hkS2 : k ≤ S := by rcases Nat.lt_or_ge S k with h | h; exact absurd (hkm (by omega)) hm0; exact h
      clear hkS hkm
      go_upto_if 43 with fail
      go_cut [9] from 33 to 119 (fun nn wx => ∃ N : Nat, N ≤ m ∧ (k = S → N = m) ∧ nn = .int .i64 (N : Int) ∧ wx = wr)
      case first =>
        by_cases hkS3 : k < S
        · obtain ⟨b1, off1, hA1, hb1, hc1⟩ := (HR1.out _ HI.out.bel).2 (by omega)
          subst hA1
          obtain ⟨x, hx⟩ : ∃ x, ss.getD k 0 = x := ⟨_, rfl⟩
          have hcell : wr.cell? ⟨b1, off1 + k, none⟩ = some (.int .i64 x) := by rw [hc1 k hkS3, hx]
          have hxb := HS0.out k hkS3
          rw [hx] at hxb
          obtain ⟨Y, hY⟩ := Int.eq_ofNat_of_zero_le (show (0 : Int) ≤ x % 40 by omega)
          have CW := Lib.hid (fun W => within_any x 40 W hxb.1 hxb.2 (by omega) (by omega))
          rw [hY] at CW
          have hki : (k : Int) < (S : Int) := by omega
          clear hx hxb hY hc1
          by_cases hYm : m < Y
          · go_wp2_with (go_at_call 11; (with_reducible refine (CW.out _).mono ?_); rintro e w' ⟨rfl, rfl⟩)
            go_meet
            exact ⟨m, Nat.le_refl _, fun _ => rfl, rfl, rfl⟩
          · go_wp2_with (go_at_call 11; (with_reducible refine (CW.out _).mono ?_); rintro e w' ⟨rfl, rfl⟩)
            all_goals
              go_meet
              first
                | exact ⟨m, Nat.le_refl _, fun _ => rfl, rfl, rfl⟩
                | exact ⟨Y, by omega, fun h => by omega, rfl, rfl⟩
        · have hki : ¬ (k : Int) < (S : Int) := by omega
          go_wp2_with fail
          go_meet
          exact ⟨m, Nat.le_refl _, fun _ => rfl, rfl, rfl⟩
      case rest =>
        obtain ⟨N, hN, hkN, rfl, rfl⟩ := hcut
        have hbx : Bytes8 bs := fun x hx => HXA.out a (n - a) (by have := HI.out.aK; omega) x (by rw [← HI.out.cat]; exact List.mem_append.2 (.inr hx))
        have C1 := Lib.hid (feed_any wc g p' 65536 f' qs false A N d (bs.take N) N HI.out.fl (take_bytes8 hbx N) (HI.out.row.take N hN) (by omega) (by omega) (by omega))
        have hNd : N ≤ d := by omega
        have hNi : (N : Int) ≤ (d : Int) := by omega
        have hNm : (N : Int) ≤ (m : Int) := by omega
        obtain ⟨bb, offb, hAb, _⟩ := HI.out.row.2 (by omega)
        have HAB := Lib.hid hAb
        clear hAb
        go_upto_region 16 with (
          (go_at_call 29
           (with_reducible refine C1.out.mono ?_)
           rintro e w5 ⟨rfl, hr, ho⟩
           have HF5 := Lib.hid (fun A' hA => HI.out.fed HG.out hN hr ho A' hA)
           clear hr ho))
        go_cut [6] from 33 to 119 (fun b wx => ∃ A', b = .slice A' (m - N) (d - N) ∧ ((d = N ∧ A' = A) ∨ A' = A.map fun x => x.add N) ∧ wx = w5)
        case first =>
          have hAb := HAB.out
          subst hAb
          by_cases hdN : d = N
          · go_wp2_with fail
            go_meet
            exact ⟨some ⟨bb, offb, none⟩, by rw [hdN, Nat.sub_self], .inl ⟨hdN, rfl⟩, rfl⟩
          · go_wp2_with fail
            go_meet
            exact ⟨some ⟨bb, offb + N, none⟩, rfl, .inr (by show _ = some (Addr.add ⟨bb, offb, none⟩ N); rw [add_none]), rfl⟩
        case rest =>
          obtain ⟨A', rfl, hA', rfl⟩ := hcut
          have HI5 := Lib.hid (HF5.out A' hA')
          have hq5 : k + 1 = S + 1 → m - N = 0 := fun h => by rw [hkN (by omega)]; omega
          obtain ⟨m', hm'⟩ : ∃ m', m - N = m' := ⟨_, rfl⟩
          obtain ⟨d', hd'⟩ : ∃ d', d - N = d' := ⟨_, rfl⟩
          obtain ⟨bs', hbs'⟩ : ∃ bs', bs.drop N = bs' := ⟨_, rfl⟩
          obtain ⟨qs', hqs'⟩ : ∃ qs', qs ++ bs.take N = qs' := ⟨_, rfl⟩
          rw [hm', hd', hbs', hqs'] at HI5
          rw [hm'] at hq5
          rw [hm', hd']
          clear hm' hd' hbs' hqs' C1 hNd hNi hNm HF5 hA' hbx hroom hml hmd hN hkN HI HE hm0 hmp HAB
          go_wp2_with fail
          obtain ⟨wi, hwi⟩ : ∃ wi, wi = wc := ⟨_, rfl⟩
          subst hwi
          go_loopw [7, 10] (fun at_ j wr2 => ∃ (a2 jj p2 f2 : Nat) (qs2 : List Int), jj ≤ a2 ∧ at_ = .int .i64 (a2 : Int) ∧ j = .int .i64 (jj : Int) ∧ Hid (CutsInv fr n w g a2 A' m' d' qs2 bs' p2 f2 wr2)) (fun at_ _ _ => n - (intOf at_).toNat)
          case atStart => exact ⟨a, 0, p', f', qs', by omega, rfl, rfl, HI5⟩
          case round =>
            obtain ⟨a2, jj, p2, f2, qs2, hjj, rfl, rfl, HI2⟩ := hrel
            have haK := HI2.out.aK
            have hj13 : (jj : Int) < 13 := by omega
            rcases HI2.out.or hn HFR.out HZ.out with ⟨hE3, _⟩ | ⟨ha2, ys, hqs, hys⟩
            · have CY := Lib.hid (ready_any wr g p2 65536 f2 qs2 false HI2.out.fl)
              rw [show (gE false qs2 != 3) = false by unfold gE; rw [if_neg (by decide), hE3]; rfl] at CY
              have HE3 := Lib.hid hE3
              clear hE3
              go_wp2_with (
                (go_at_call 35
                 (with_reducible refine CY.out.mono ?_)
                 rintro e w6 ⟨rfl, hb⟩
                 have HI6 := Lib.hid (HI2.out.below hb)
                 clear hb))
              go_roundw
              case rel =>
                first
                  | exact ⟨k + 1, a2, m', d', A', qs2, bs', p2, f2, by omega, hq5, rfl, rfl, by go_num, HI6, HE3⟩
                  | (repeat apply Exists.intro
                     exact ⟨⟨k + 1, a2, m', d', A', qs2, bs', p2, f2, by omega, hq5, rfl, rfl, by go_num, HI6, HE3⟩, rfl⟩)
              case measure => simp [intOf]; omega
            · obtain ⟨z1, z2, z3⟩ := HZ.out a2 ha2
              obtain ⟨q1, q2, q3, q4⟩ := HF.out a2 ha2
              have hkb := HK0.out a2 ha2
              have hfl := HI2.out.fl
              subst hqs
              obtain ⟨zs, hzs⟩ : ∃ zs, fs a2 = zs := ⟨_, rfl⟩
              obtain ⟨x, hx⟩ : ∃ x, ks.getD a2 0 = x := ⟨_, rfl⟩
              rw [hzs, hx] at hfl q4
              rw [hx] at hkb
              rw [hzs] at z1 z2 z3
              obtain ⟨v, hv⟩ : ∃ v, x % 256 = v := ⟨_, rfl⟩
              have hv0 : 0 ≤ v ∧ v ≤ 255 := by omega
              have CV := Lib.hid (fun W => within_any x 256 W hkb.1 hkb.2 (by omega) (by omega))
              rw [hv] at hfl CV
              have CY := Lib.hid (ready_any wr g p2 65536 f2 _ false hfl)
              rw [(nq_frame (a2 : Int) v zs ys (by omega) (by omega) (by omega) hv0 65536).1] at CY
              have CX := Lib.hid (fun W (hW : Below wr.heap.size wr W) => next_frame W g p2 65536 f2 (a2 : Int) v zs ys (by omega) (by omega) (by omega) hv0 (hfl.below hW))
              obtain ⟨b0, off0, hA0, hb0, hc0⟩ := (HR0.out _ (Below.refl _ _)).2 (by omega)
              subst hA0
              have HCE : Hid (∀ W, Below w.heap.size w W → W.cell? ⟨b0, off0 + a2, none⟩ = some (.int .i64 x)) := fun W hW => (hW.cell (p := ⟨b0, off0 + a2, none⟩) hb0).trans (by rw [hc0 a2 ha2, hx])
              obtain ⟨l, hl⟩ : ∃ l, zs.length = l := ⟨_, rfl⟩
              rw [hl] at CX q4
              have CA := Lib.hid q4
              have hai : (a2 : Int) < (n : Int) := by omega
              have HYS := Lib.hid hys
              have HLZ := Lib.hid hl
              clear z1 z2 z3 q1 q2 q3 q4 hzs hx hv hfl hkb hc0 hl hys
              go_wp2_with (first
                | (go_at_call 35
                   (with_reducible refine CY.out.mono ?_)
                   rintro e w6 ⟨rfl, hb⟩
                   have HB6 := Lib.hid hb
                   have C6 := Lib.hid (CX.out w6 hb)
                   clear hb)
                | (go_at_call 31
                   (with_reducible refine C6.out.mono ?_)
                   rintro e w7 ⟨B7, k7, f7, p7, rfl, ho, hr, hp7, hoff⟩
                   have HI7 : Hid (CutsInv fr n w g (a2 + 1) A' m' d' ys bs' p7 f7 w7) := by
                     have h2 := HI2.out.below HB6.out
                     exact ⟨by omega, HYS.out, hr, h2.row.next hoff hp7, h2.cap, by have := h2.bel.size; have := h2.pw; rcases hp7 with h | h <;> omega, below_gp h2.bel h2.bel.size hoff HG.out h2.pw⟩
                   have HO7 := Lib.hid (own_row ho)
                   clear ho hr hp7 hoff))
              obtain ⟨w8, hw8⟩ : ∃ w8, w7.alloc (.cells #[.int .i64 (a2 : Int), .int .i64 v, .slice B7 l k7] 64) = w8 := ⟨_, rfl⟩
              have HB8 : Hid (Below w7.heap.size w7 w8) := by rw [← hw8]; exact (Below.refl _ _).alloc (Nat.le_refl _) _
              have HX8 : Hid (WholeV w8 w7.heap.size 64 [.int .i64 (a2 : Int), .int .i64 v, .slice B7 l k7]) := by rw [← hw8]; exact heap_alloc_new w7 _
              have HR8 := Lib.hid (fun W (hW : Below w8.heap.size w8 W) => (((HO7.out.ints).below (HB8.out.trans (hW.mono HB8.out.size))).more (Nat.le_trans HB8.out.size hW.size)))
              rw [hw8]
              clear hw8
              have KS : Hid (∀ X, Below w8.heap.size w8 X → X.cell? ⟨w7.heap.size, 0, none⟩ = some (.int .i64 (a2 : Int)) ∧ X.cell? ⟨w7.heap.size, 1, none⟩ = some (.int .i64 v) ∧ X.cell? ⟨b0, off0 + a2, none⟩ = some (.int .i64 x) ∧ Below w8.heap.size w8 X) := by
                intro X hX
                have hx := HX8.out.below hX HX8.out.lt
                have hb := HB8.out.trans (hX.mono HB8.out.size)
                exact ⟨hx.cell 0, hx.cell 1, HCE.out X (HI7.out.bel.trans (hb.mono HI7.out.bel.size)), hX⟩
              have hna : ¬ (n : Int) ≤ (a2 : Int) := by omega
              go_region_held3 (fun X => X.cell? ⟨w7.heap.size, 0, none⟩ = some (.int .i64 (a2 : Int)) ∧ X.cell? ⟨w7.heap.size, 1, none⟩ = some (.int .i64 v) ∧ X.cell? ⟨b0, off0 + a2, none⟩ = some (.int .i64 x) ∧ Below w8.heap.size w8 X)
                (exact KS.out _ (Below.refl _ _).drew)
                (first | (go_at_call 11; (with_reducible refine (CV.out _).mono ?_); rintro e w' ⟨rfl, rfl⟩))
              have hcell8 := (KS.out w8 (Below.refl _ _)).2.2.1
              go_wp2_with fail
              go_region_law (first
                | (go_simp; go_at_call 22
                   (with_reducible refine (CA.out _).mono ?_)
                   rintro e w9 ⟨V, rfl, hb9, hV, _⟩
                   have HV9 := Lib.hid hV
                   have HB9 : Hid (Below w8.heap.size w8 w9) := ((Below.refl _ _).drew.drew).trans hb9
                   have hcell9 := (KS.out w9 HB9.out).2.2.1
                   clear hb9 hV)
                | (go_simp; go_at_call 37
                   refine (HV9.out _ (by first | exact Below.refl _ _ | exact (Below.refl _ _).drew)).mono ?_
                   rintro e w10 ⟨C, cap, rfl, hr10, hb10⟩
                   have HB10 : Hid (Below w8.heap.size w8 w10) := HB9.out.trans (hb10.mono HB9.out.size)
                   have c2 : w10.cell? ⟨w7.heap.size, 2, none⟩ = some (.slice B7 l k7) := (HX8.out.below HB10.out HX8.out.lt).cell 2
                   have hcv1 := conv_row B7 l k7 zs w10 (HR8.out w10 HB10.out)
                   have hcv2 := conv_row C l cap zs w10 hr10
                   obtain ⟨str, hstr⟩ : ∃ str, strOfNums zs = str := ⟨_, rfl⟩
                   rw [hstr] at hcv1 hcv2
                   have HI10 : Hid (CutsInv fr n w g (a2 + 1) A' m' d' ys bs' p7 f7 w10) := HI7.out.below (HB8.out.trans (HB10.out.mono HB8.out.size))
                   clear hr10 hb10 hstr))
              all_goals
                go_wp2_with fail
                go_roundw
                case rel =>
                  first
                    | exact ⟨a2 + 1, jj + 1, p7, f7, ys, by omega, by go_num, by go_num, HI10⟩
                    | (repeat apply Exists.intro
                       exact ⟨⟨a2 + 1, jj + 1, p7, f7, ys, by omega, by go_num, by go_num, HI10⟩, rfl⟩)
                case measure => simp [intOf]; omega

theorem walk_long (A0 : Option Addr) (n c0 : Nat) (A1 : Option Addr) (S c1 : Nat) (w : World) (h : 12 < n ∨ (¬ 12 < n ∧ 60 < S)) :
    Calls Try.prog 7 #[.slice A0 n c0, .slice A1 S c1] w fun e w' => e = .returned (.bool true) ∧ Below w.heap.size w w' := by
  rcases h with h | ⟨h, h2⟩
  all_goals
    try have h3 : (12 : Int) < (n : Int) := by omega
    try have h3 : ¬ (12 : Int) < (n : Int) := by omega
    try have h4 : (60 : Int) < (S : Int) := by omega
    clear h
    go_enter Try.func7, Try.ntmps7
    go_wp2_with (go_at_call 24; refine (awake10_any _).mono ?_; rintro e w1 ⟨rfl, hb⟩; have HB1 := Lib.hid hb; clear hb)
    go_ret
    exact ⟨rfl, HB1.out⟩

theorem row_bounds {w : World} {A : Option Addr} {n c : Nat} {z : List Int} (h : IsRow .i64 w A n c z) : ∀ i, i < n → -9223372036854775808 ≤ (z.take n).getD i 0 ∧ (z.take n).getD i 0 ≤ 9223372036854775807 := fun i hi => by
  have hl := h.row.1
  exact bounds_i64 (h.wf ((z.take n).getD i 0) (by rw [List.getD_eq_getElem?_getD, List.getElem?_eq_getElem (by omega)]; exact List.getElem_mem _))

theorem walk (a0 : Option Addr) (len0 cap0 : Nat) (z0 : List Int) (a1 : Option Addr) (len1 cap1 : Nat) (z1 : List Int) (w : World) (w0 : IsRow .i64 w a0 len0 cap0 z0) (w1 : IsRow .i64 w a1 len1 cap1 z1) :
    Calls Try.prog 7 #[.slice a0 len0 cap0, .slice a1 len1 cap1] w fun e w' => e = .returned (.bool true) ∧ Below w.heap.size w w' := by
  by_cases hn : 12 < len0
  · exact walk_long _ _ _ _ _ _ w (.inl hn)
  by_cases hm : 60 < len1
  · exact walk_long _ _ _ _ _ _ w (.inr ⟨hn, hm⟩)
  have hf : ∀ i, ∃ zs, i < len0 → FIs ((z0.take len0).getD i 0) zs := by
    intro i
    by_cases hi : i < len0
    · have hk := row_bounds w0 i hi
      obtain ⟨zs, h⟩ := fis_some _ hk.1 hk.2
      exact ⟨zs, fun _ => h⟩
    · exact ⟨[], fun h => absurd h hi⟩
  have hc : ∃ fs : Nat → List Int, ∀ i, i < len0 → FIs ((z0.take len0).getD i 0) (fs i) := ⟨fun i => (hf i).choose, fun i hi => (hf i).choose_spec hi⟩
  obtain ⟨fs, hfs⟩ := hc
  exact cuts_main a0 len0 cap0 _ a1 len1 cap1 _ fs w w0.row (by omega) hfs (row_bounds w0) w1.row (row_bounds w1) (by omega)

/-! ### THE ROW's STEP: WRITTEN OUT: LEAVE IT -/
set_option maxRecDepth 100000 in
theorem lifted (os : Os) (started : os.Started) (H : Type) (enc : TypeId × Value → H) :
    ReturnsInHanded {} Try.checked os 7 .any (Rows.flowCutsSpec.pre6 enc Try.prog Try.f7 Rows.flowCutsRow.domain false) (Rows.flowCutsSpec.post enc Try.prog Try.f7 false true false false) := by
  refine returnsInHanded_of_change (C := Try.checked) own started (by kernel_rfl) Try.func7
    (ChangeSpec.witness6 (enc := enc) (C := Try.checked) false ⟨#[], #[.slice none 0 0, .slice none 0 0], []⟩ 8 (by kernel_rfl) (by kernel_rfl) (by kernel_rfl) (by kernel_rfl)) ?_
  intro W base args ds gs before hval0 hW hcnd _
  have hval : ∀ (j : Nat) t v, Try.f7.params[j]? = some t → args[j]? = some v → Value.okWide Try.prog W .any base t v := hval0
  have hW' := hW
  obtain ⟨p, q, hA0, hV, rfl, hfz, hnd⟩ := hW
  have hA : DataW.TrodAll enc Try.prog W 0 (fun _ => true) true Try.f7.params.toList args.toList ds p := hA0
  rw [Try.params7] at hA hval
  obtain ⟨v0, vs0, d0, ds0, p0, q0, hargs, rfl, rfl, h0, r0⟩ := trodAll_cons hA
  obtain ⟨v1, vs1, d1, ds1, p1, q1, rfl, rfl, rfl, h1, r1⟩ := trodAll_cons r0
  obtain ⟨rfl, rfl, rfl⟩ := trodAll_nil r1
  obtain rfl : args = #[v0, v1] := by cases args; simp_all
  obtain ⟨rfl, rfl⟩ := trodVars_none hV
  obtain ⟨a0, len0, cap0, rfl⟩ := okWide_slice Try.underlying43 (hval 0 43 v0 rfl rfl)
  have k0 := h0
  have lt0 : ∀ x ∈ p0, x.block < W.heap.size := by obtain ⟨m, hm⟩ := k0; exact DataW.trod_lt m _ _ _ hm
  obtain ⟨z0, w0⟩ : ∃ zs, IsRow .i64 W a0 len0 cap0 zs := by
    obtain ⟨fuel, hf⟩ := h0
    rcases open_ints Try.underlying43 Try.underlying3 (by kernel_rfl) hf with ⟨hcs, _⟩ | ⟨x, l, c, zs, hcs, _, hl, hm, hz, _, hcell, hwz⟩
    · simp [Value.cells] at hcs
      obtain ⟨rfl, rfl, rfl⟩ := hcs
      exact ⟨[], .inl ⟨rfl, rfl, rfl, rfl⟩⟩
    · simp [Value.cells] at hcs
      obtain ⟨rfl, rfl, rfl⟩ := hcs
      exact ⟨zs, .inr ⟨_, rfl, hl, hm, by simpa using hz, hcell, hwz⟩⟩
  obtain ⟨a1, len1, cap1, rfl⟩ := okWide_slice Try.underlying43 (hval 1 43 v1 rfl rfl)
  have k1 := h1
  have lt1 : ∀ x ∈ p1, x.block < W.heap.size := by obtain ⟨m, hm⟩ := k1; exact DataW.trod_lt m _ _ _ hm
  obtain ⟨z1, w1⟩ : ∃ zs, IsRow .i64 W a1 len1 cap1 zs := by
    obtain ⟨fuel, hf⟩ := h1
    rcases open_ints Try.underlying43 Try.underlying3 (by kernel_rfl) hf with ⟨hcs, _⟩ | ⟨x, l, c, zs, hcs, _, hl, hm, hz, _, hcell, hwz⟩
    · simp [Value.cells] at hcs
      obtain ⟨rfl, rfl, rfl⟩ := hcs
      exact ⟨[], .inl ⟨rfl, rfl, rfl, rfl⟩⟩
    · simp [Value.cells] at hcs
      obtain ⟨rfl, rfl, rfl⟩ := hcs
      exact ⟨zs, .inr ⟨_, rfl, hl, hm, by simpa using hz, hcell, hwz⟩⟩
  clear hA0 hval0
  refine (walk a0 len0 cap0 z0 a1 len1 cap1 z1 W w0 w1).mono fun e W' ⟨he, bel⟩ => ?_
  subst he
  exact ⟨_, rfl, _, _, _, [], _, [], hW', trodAll_mk1 (shut_bool Try.underlying4 _), (trodAll_cons_mk (Below.trod laidOut (by kernel_rfl) (of_decide_eq_true (by kernel_rfl)) k0 bel lt0) (trodAll_cons_mk (Below.trod laidOut (by kernel_rfl) (of_decide_eq_true (by kernel_rfl)) k1 bel lt1) trodAll_mk0)), rfl, bel.frame _, fun h => by cases h⟩

theorem over : Rows.flowCutsRow.holds Try.pinned (OpenSpec.ofChange Rows.flowCutsSpec) :=
  OpenClaim.holds_of_wide 7 Try.f7 rfl rfl rfl rfl rfl rfl rfl ⟨rfl, rfl, rfl, rfl, rfl⟩ rfl rfl rfl rfl rfl (by kernel_rfl) Try.func7 (by kernel_rfl)
    (of_decide_eq_true (by kernel_rfl)) (by unfold Func.isWrapper; first | (rw [if_pos (by decide +kernel)]; kernel_rfl) | (rw [if_neg (by decide +kernel)]; exact ⟨rfl, rfl⟩))
    (fun os started H enc _ => lifted os started H enc)

/-- ████ THE STATEMENT ████ -/
theorem proved : Rows.FlowCutsSaid := over
#print axioms proved
end Go.Proofs.Ythmendcdfhlkkaa.flowCuts
