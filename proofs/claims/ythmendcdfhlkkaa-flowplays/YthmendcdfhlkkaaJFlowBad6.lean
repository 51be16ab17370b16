/- Joined: FRow FBadT. -/
import Derived.Test.YthmendcdfhlkkaaJFlowBad5
import Derived.Test.YthmendcdfhlkkaaJFlowBad4
import Derived.Test.YthmendcdfhlkkaaWithin
import Derived.Deep.RegionHeld3
namespace Go.Proofs.Ythmendcdfhlkkaa
open Go.ChangeShapes Go.WideShapes Go.ChangeAt Go.RowKit
set_option linter.unusedVariables false
set_option linter.unusedSimpArgs false

/-- Frames i, i + 1, .., c of them. -/
def fcat (fr : Nat → List Int) : Nat → Nat → List Int
  | _, 0 => []
  | i, c + 1 => fr i ++ fcat fr (i + 1) c
theorem fcat_snoc (fr : Nat → List Int) : ∀ (c i : Nat), fcat fr i (c + 1) = fcat fr i c ++ fr (i + c) := by
  intro c
  induction c with
  | zero => intro i; simp [fcat]
  | succ c ih =>
    intro i
    show fr i ++ fcat fr (i + 1) (c + 1) = (fr i ++ fcat fr (i + 1) c) ++ fr (i + (c + 1))
    rw [ih (i + 1), List.append_assoc, show i + 1 + c = i + (c + 1) by omega]
theorem fcat_le (fr : Nat → List Int) (m : Nat) (h : ∀ i, i < m → (fr i).length ≤ 259) : ∀ (c i : Nat), i + c ≤ m → (fcat fr i c).length ≤ 259 * c := by
  intro c
  induction c with
  | zero => intro i hi; simp [fcat]
  | succ c ih =>
    intro i hi
    show (fr i ++ fcat fr (i + 1) c).length ≤ _
    rw [List.length_append]
    have := ih (i + 1) (by omega)
    have := h i (by omega)
    omega
theorem fcat_bytes (fr : Nat → List Int) (m : Nat) (h : ∀ i, i < m → Bytes8 (fr i)) : ∀ (c i : Nat), i + c ≤ m → Bytes8 (fcat fr i c) := by
  intro c
  induction c with
  | zero => intro i hi x hx; simp [fcat] at hx
  | succ c ih =>
    intro i hi x hx
    rcases List.mem_append.1 (show x ∈ fr i ++ fcat fr (i + 1) c from hx) with hx | hx
    · exact h i (by omega) x hx
    · exact ih (i + 1) (by omega) x hx

/-- A frame's bytes: transaction t, unit u, the pdu zs. -/
def frB (t u : Int) (zs : List Int) : List Int := headOf t ((zs.length : Int) + 1) u ++ zs
theorem frB_length (t u : Int) (zs : List Int) : (frB t u zs).length = 7 + zs.length := by unfold frB; rw [List.length_append]; rfl

/-- What busbarlaw0.Frame leaves of a request. -/
def FrameGot (t u : Int) (zs : List Int) (W : World) (e : Ending) (w' : World) : Prop := ∃ B d, e = .returned (.slice B (7 + zs.length) d) ∧
  w'.ownsRow W.heap.size 5 1 (.slice B (7 + zs.length) d) (7 + zs.length) ((frB t u zs).map (Value.int .u8)) ∧ Below W.heap.size W w'

set_option maxRecDepth 100000 in
set_option maxHeartbeats 1000000 in
theorem bframe_any (fn at_ n x an orr ra rn co ob : Int) (BA WA : Option Addr) (bl wl bc wc l : Nat) (zs : List Int) (t u : Int) (W : World) (hl : zs.length = l) (h4 : 4 ≤ l) (h5 : l ≤ 252) (ht : 0 ≤ t ∧ t ≤ 65535) (hu : -9223372036854775808 ≤ u ∧ u ≤ 9223372036854775807)
    (hA : ∀ W', Below W.heap.size W W' → Calls Try.prog 37 #[.agg #[.int .i64 fn, .int .i64 at_, .int .i64 n, .int .u16 x, .int .u16 an, .int .u16 orr, .slice BA bl bc, .slice WA wl wc, .int .i64 ra, .int .i64 rn, .int .i64 co, .int .i64 ob]] W' fun e w' => ∃ C cap, e = .returned (.tuple #[.slice C l cap, .int .i64 0]) ∧ Row .u8 w' w'.heap.size C l zs ∧ Below W'.heap.size W' w') :
    Calls Try.prog 71 #[.agg #[.int .i64 fn, .int .i64 at_, .int .i64 n, .int .u16 x, .int .u16 an, .int .u16 orr, .slice BA bl bc, .slice WA wl wc, .int .i64 ra, .int .i64 rn, .int .i64 co, .int .i64 ob], .int .i64 t, .int .i64 u] W (FrameGot t (u % 256) zs W) := by
  have C1 := Lib.hid (hA _ ((Below.refl _ _).alloc (Nat.le_refl _) (.cells #[.int .i64 fn, .int .i64 at_, .int .i64 n, .int .u16 x, .int .u16 an, .int .u16 orr, .slice BA bl bc, .slice WA wl wc, .int .i64 ra, .int .i64 rn, .int .i64 co, .int .i64 ob] 51)))
  have CT := Lib.hid (fun W' => within_any t 65536 W' (by omega) (by omega) (by omega) (by omega))
  have CU := Lib.hid (fun W' => within_any u 256 W' hu.1 hu.2 (by omega) (by omega))
  rw [show t % 65536 = t by omega] at CT
  obtain ⟨v, hv⟩ : ∃ v, u % 256 = v := ⟨_, rfl⟩
  have hf : hFits t ((l : Int) + 1) v := ⟨by omega, by omega, by omega⟩
  have CF := Lib.hid (fun A c W' hr => rframe_yes A l c zs t v W' hr hf)
  rw [hv] at CU ⊢
  have HL := Lib.hid hl
  clear hA ht hu hv hf hl
  go_enter Try.func71, Try.ntmps71
  go_wp2_with (first
    | (go_at_call 37
       (with_reducible refine C1.out.mono ?_)
       rintro e w2 ⟨C, cap, rfl, hr, hb⟩
       have HB2 : Hid (Below W.heap.size W w2) := ((Below.refl _ _).alloc (Nat.le_refl _) _).trans (hb.mono (by simp))
       have C2 := Lib.hid (CF.out C cap w2 hr)
       clear hr hb)
    | (go_at_call 11; (with_reducible refine (CT.out _).mono ?_); rintro e w' ⟨rfl, rfl⟩)
    | (go_at_call 11; (with_reducible refine (CU.out _).mono ?_); rintro e w' ⟨rfl, rfl⟩)
    | (go_at_call 38
       (with_reducible refine C2.out.mono ?_)
       rintro e w3 ⟨B, d, rfl, ho, hb⟩
       have HB3 : Hid (Below W.heap.size W w3) := HB2.out.trans (hb.mono HB2.out.size)
       have HO3 : Hid (w3.ownsRow W.heap.size 5 1 (.slice B (7 + l) d) (7 + l) ((headOf t ((l : Int) + 1) v ++ zs).map (Value.int .u8))) := own_mono ho HB2.out.size
       clear ho hb))
  go_ret
  unfold FrameGot frB
  rw [HL.out]
  exact ⟨B, d, rfl, HO3.out, HB3.out⟩

/-- The request by k, twice: its pdu, and its frames. -/
def FIs (k : Int) (zs : List Int) : Prop :=
  Bytes8 zs ∧ 4 ≤ zs.length ∧ zs.length ≤ 252 ∧ ∀ w, Calls Try.prog 22 #[.int .i64 k, .int .i64 k] w fun e w1 => ∃ V, e = .returned V ∧ Below w.heap.size w w1 ∧
    (∀ W, Below w1.heap.size w1 W → Calls Try.prog 37 #[V] W fun e w' => ∃ C cap, e = .returned (.tuple #[.slice C zs.length cap, .int .i64 0]) ∧ Row .u8 w' w'.heap.size C zs.length zs ∧ Below W.heap.size W w') ∧
    ∀ W (t : Int), Below w1.heap.size w1 W → 0 ≤ t ∧ t ≤ 65535 → Calls Try.prog 71 #[V, .int .i64 t, .int .i64 k] W (FrameGot t (k % 256) zs W)

theorem fis_some (k : Int) (k0 : -9223372036854775808 ≤ k) (k1 : k ≤ 9223372036854775807) : ∃ zs, FIs k zs := by
  obtain ⟨fn, at_, n, x, an, orr, bl, wl, ra, rn, co, ob, bs, ws, ⟨g1, g2, g3, g4, g5⟩, h⟩ := lask_is k k k0 k1 k0 k1
  have g1' : rightP fn at_ n x an orr bs.length ws.length ra rn co ob := by rw [g4, g5]; exact g1
  have hl := enc_length at_ n x an orr bs ws ra rn co ob fn g1'
  refine ⟨enc fn at_ n x an orr bs ws ra rn co ob, enc_bytes at_ n x an orr bs ws ra rn co ob fn g1' g2 g3, hl.1, hl.2.1, fun w => ?_⟩
  refine (h w).mono fun e w1 ⟨BA, WA, bc, wc, h1, h2, h3, h4⟩ => ?_
  have hA : ∀ W, Below w1.heap.size w1 W → Calls Try.prog 37 #[_] W fun e w' => ∃ C cap, e = .returned (.tuple #[.slice C (enc fn at_ n x an orr bs ws ra rn co ob).length cap, .int .i64 0]) ∧ Row .u8 w' w'.heap.size C (enc fn at_ n x an orr bs ws ra rn co ob).length (enc fn at_ n x an orr bs ws ra rn co ob) ∧ Below W.heap.size W w' :=
    fun W hW => rbytes_yes fn at_ n x an orr bs ws ra rn co ob BA WA bl wl bc wc W g1 g2.v0 g2.v1 g2.x0 g2.x1 g2.o0 g2.o1 (((own_row h2).bools.below hW).more hW.size) (((own_row h3).ints.below hW).more hW.size) g3
  exact ⟨_, h1, h4, hA, fun W t hW ht => bframe_any fn at_ n x an orr ra rn co ob BA WA bl wl bc wc _ _ t k W rfl hl.1 hl.2.1 ht ⟨k0, k1⟩ fun W' hW' => hA W' (hW.trans (hW'.mono hW.size))⟩

/-- The frames of requests by numbers: the fs are their pdus. -/
def frOf (ks : List Int) (fs : Nat → List Int) (i : Nat) : List Int := frB i (ks.getD i 0 % 256) (fs i)

/-- What row leaves. -/
def RowGot (all : List Int) (w : World) (e : Ending) (w' : World) : Prop := ∃ B d m, e = .returned (.slice B m d) ∧ all.length = m ∧ w'.ownsRow w.heap.size 5 1 (.slice B m d) m (all.map (Value.int .u8)) ∧ Below w.heap.size w w'

set_option maxRecDepth 100000 in
set_option maxHeartbeats 2000000 in
theorem row_any (A : Option Addr) (n c K : Nat) (ks : List Int) (fs : Nat → List Int) (w : World) (hr : Row .i64 w w.heap.size A n ks) (hK : K = min n 12) (hf : ∀ i, i < K → FIs (ks.getD i 0) (fs i)) :
    Calls Try.prog 27 #[.slice A n c] w (RowGot (fcat (frOf ks fs) 0 K) w) := by
  obtain ⟨fr, hfr⟩ : ∃ fr, frOf ks fs = fr := ⟨_, rfl⟩
  have HFR : Hid (∀ i, fr i = frB i (ks.getD i 0 % 256) (fs i)) := fun i => by rw [← hfr]; rfl
  have HF := Lib.hid hf
  have HL : Hid (∀ c, c ≤ K → (fcat fr 0 c).length ≤ 259 * c) := fun c hc => fcat_le fr K (fun i hi => by rw [HFR.out, frB_length]; have := (hf i hi).2.2.1; omega) c 0 (by omega)
  have HR := Lib.hid (fun W (hb : Below w.heap.size w W) => (hr.below hb).more hb.size)
  have HK := Lib.hid hK
  have hK12 : K ≤ 12 := by omega
  rw [hfr]
  clear hr hf hfr hK
  go_enter Try.func27, Try.ntmps27
  go_wp2
  go_loopw [3, 4] (fun l i wr => ∃ (k m : Nat) (B : Option Addr) (d : Nat), k ≤ K ∧ i = .int .i64 (k : Int) ∧ l = .slice B m d ∧ Hid ((fcat fr 0 k).length = m) ∧ Hid (wr.ownsRow w.heap.size 5 1 (.slice B m d) m ((fcat fr 0 k).map (Value.int .u8))) ∧ Hid (Below w.heap.size w wr)) (fun _ i _ => K - (intOf i).toNat)
  case atStart => exact ⟨0, 0, none, 0, by omega, rfl, rfl, Lib.hid rfl, own_none _ _ _, Below.refl _ _⟩
  case round =>
    obtain ⟨k, m, B, d, hk, rfl, rfl, HML, HO, HB⟩ := hrel
    by_cases hlt : k < K
    · have hkn : k < n := by have := HK.out; omega
      have hi : (k : Int) < (n : Int) := by omega
      have hi2 : (k : Int) < 12 := by omega
      obtain ⟨q1, q2, q3, q4⟩ := HF.out k hlt
      have hfrk := HFR.out k
      obtain ⟨zs, hzs⟩ : ∃ zs, fs k = zs := ⟨_, rfl⟩
      obtain ⟨x, hx⟩ : ∃ x, ks.getD k 0 = x := ⟨_, rfl⟩
      rw [hzs] at q1 q2 q3 q4 hfrk
      rw [hx] at q4 hfrk
      obtain ⟨bA, offA, hA, hbA, hcA⟩ := (HR.out _ HB.out).2 (by omega)
      subst hA
      have hcell : wr.cell? ⟨bA, offA + k, none⟩ = some (.int .i64 x) := by rw [hcA k hkn, hx]
      obtain ⟨l, hl⟩ : ∃ l, zs.length = l := ⟨_, rfl⟩
      have HLZ := Lib.hid hl
      rw [hl] at q2 q3
      have HU : Hid ((fcat fr 0 k).map (Value.int .u8) ++ (frB (k : Int) (x % 256) zs).map (Value.int .u8) = (fcat fr 0 (k + 1)).map (Value.int .u8)) := by
        show _ = _
        rw [fcat_snoc, List.map_append, Nat.zero_add, hfrk]
      have HM1 : Hid ((fcat fr 0 (k + 1)).length = m + (7 + l)) := by show _ = _; rw [fcat_snoc, List.length_append, Nat.zero_add, hfrk, frB_length, HML.out, hl]
      have hm9 : m + (7 + l) ≤ 4000 := by have h1 := HL.out (k + 1) (by omega); rw [HM1.out] at h1; omega
      have CA := Lib.hid q4
      have HBA := Lib.hid hbA
      clear q1 q4 hfrk hzs hx hcA hl
      go_wp2_with fail
      go_region_law (first
        | (refine step_append_to (.tmp 15) (.tmp 30) 22 w.heap.size 5 (.int .u8 0) 1 Try.underlying22 info5 rfl (.slice B m d) m ((fcat fr 0 k).map (Value.int .u8)) (7 + l) ((frB (k : Int) (x % 256) zs).map (Value.int .u8)) (m + (7 + l)) ((fcat fr 0 (k + 1)).map (Value.int .u8)) rfl HU.out (one_cells _ _) (by omega) (by omega) ?_ ?_ ?_ ?_ ?_
           · exact ⟨rfl, rfl, rfl⟩
           · exact own_keep HO.out HBR3.out
           · exact ⟨_, _, rfl, HRV3.out⟩
           · exact HB3.out.size
           intro A8 c8 w8 ho8 hg8
           have HO8 := Lib.hid ho8
           have HB8 : Hid (Below w.heap.size w w8) := below_append HB3.out (own_keep HO.out HBR3.out) hg8 HB3.out.size
           clear ho8 hg8)
        | (go_simp; go_at_call 22
           (with_reducible refine (CA.out _).mono ?_)
           rintro e w2 ⟨V, rfl, hb2, _, hV⟩
           have CV := Lib.hid (fun W hW => hV W (k : Int) hW ⟨by omega, by omega⟩)
           have HBR2 : Hid (Below wr.heap.size wr w2) := (Below.refl _ _).drew.trans hb2
           have hcell2 : w2.cell? ⟨bA, offA + k, none⟩ = some (.int .i64 x) := (HBR2.out.cell (p := ⟨bA, offA + k, none⟩) HBA.out).trans hcell
           clear hb2 hV)
        | (go_simp; go_at_call 71
           refine (CV.out _ (by first | exact Below.refl _ _ | exact (Below.refl _ _).drew)).mono ?_
           rintro e w3 ⟨B3, d3, rfl, ho3, hb3⟩
           have HBR3 : Hid (Below wr.heap.size wr w3) := HBR2.out.trans (hb3.mono HBR2.out.size)
           have HB3 : Hid (Below w.heap.size w w3) := HB.out.trans (HBR3.out.mono HB.out.size)
           rw [HLZ.out] at ho3
           have HRV3 := Lib.hid (own_row ho3)
           try rw [HLZ.out]
           clear ho3 hb3))
      all_goals
        go_wp2
        go_roundw
        case rel => exact ⟨k + 1, _, A8, c8, by omega, by go_num, rfl, HM1, HO8, HB8⟩
        case measure => simp [intOf]; omega
    · obtain rfl : K = k := by omega
      have hh := HK.out
      by_cases hkn : K < n
      · obtain rfl : K = 12 := by omega
        have hi : (12 : Int) < (n : Int) := by omega
        clear hh hk hlt hK12
        go_wp2
        go_ret
        exact ⟨B, d, m, rfl, HML.out, HO.out, HB.out⟩
      · have hi : ¬ (K : Int) < (n : Int) := by omega
        clear hh
        go_wp2
        go_ret
        exact ⟨B, d, m, rfl, HML.out, HO.out, HB.out⟩

/-- A head's first six bytes, transaction 0. -/
def badH (p l : Int) : List Int := [0, 0, p / 256, p % 256, l / 256, l % 256]
theorem badH_bytes (p l : Int) (hp : 0 ≤ p ∧ p ≤ 65535) (hl : 0 ≤ l ∧ l ≤ 65535) : Bytes8 (badH p l) := by
  intro x hx
  simp [badH] at hx
  omega
theorem badH_code (p l : Int) (zs : List Int) (hbad : ¬ (p = 0 ∧ 2 ≤ l ∧ l ≤ 254)) : cE (badH p l ++ zs) = 2 := by
  have h2 : wordAt (badH p l ++ zs) 2 = p := by simp [wordAt, badH, List.getD]; omega
  have h4 : wordAt (badH p l ++ zs) 4 = l := by simp [wordAt, badH, List.getD]; omega
  have hn : 6 ≤ (badH p l ++ zs).length := by rw [List.length_append]; show 6 ≤ 6 + _; omega
  have hh : hE (badH p l ++ zs) (badH p l ++ zs).length = 2 := by
    unfold hE
    rw [if_neg (by omega), if_neg]
    unfold hGood
    rw [h2, h4]
    exact hbad
  unfold cE
  rw [hh]
  rfl

/-- Frames ahead of whatever: the first one is told. -/
theorem frB_cut (t u : Int) (zs ys : List Int) (h1 : 1 ≤ zs.length) (h2 : zs.length ≤ 253) (ht : 0 ≤ t ∧ t ≤ 65535) (hu : 0 ≤ u ∧ u ≤ 255) :
    cE (frB t u zs ++ ys) = 0 ∧ cM (frB t u zs ++ ys) = zs.length ∧ cN (frB t u zs ++ ys) = 7 + zs.length ∧ cT (frB t u zs ++ ys) = t ∧ cU (frB t u zs ++ ys) = u ∧ cP (frB t u zs ++ ys) = zs := by
  have h := c_frame t u zs ys zs.length rfl ⟨ht, by omega, hu⟩
  unfold frB
  rw [show ((zs.length : Int) + 1) = 1 + (zs.length : Int) by omega]
  exact h
theorem frB_bytes (t u : Int) (zs : List Int) (h1 : 1 ≤ zs.length) (h2 : zs.length ≤ 253) (ht : 0 ≤ t ∧ t ≤ 65535) (hu : 0 ≤ u ∧ u ≤ 255) (hx : Bytes8 zs) : Bytes8 (frB t u zs) := by
  unfold frB
  exact frame_bytes t _ u zs ⟨ht, by omega, hu⟩ hx
/-- After it, what stands behind it waits. -/
theorem nq_frame (t u : Int) (zs ys : List Int) (h1 : 1 ≤ zs.length) (h2 : zs.length ≤ 253) (ht : 0 ≤ t ∧ t ≤ 65535) (hu : 0 ≤ u ∧ u ≤ 255) (M : Nat) :
    gE false (frB t u zs ++ ys) = 0 ∧ nQ false (frB t u zs ++ ys) = ys ∧ nD false (frB t u zs ++ ys) = false ∧ nM false (frB t u zs ++ ys) M = M := by
  obtain ⟨e0, _, eN, _⟩ := frB_cut t u zs ys h1 h2 ht hu
  have e1 : gE false (frB t u zs ++ ys) = 0 := by unfold gE; rw [if_neg (by decide)]; exact e0
  refine ⟨e1, ?_, by unfold nD; rw [e1]; rfl, by unfold nM; rw [e1]; rfl⟩
  unfold nQ
  rw [e1, if_neg (by decide), eN, ← frB_length t u zs, List.drop_left]

/-- A flow that has such a frame ahead: what Next leaves. -/
theorem next_frame (w : World) (g p M f : Nat) (t u : Int) (zs ys : List Int) (h1 : 1 ≤ zs.length) (h2 : zs.length ≤ 253) (ht : 0 ≤ t ∧ t ≤ 65535) (hu : 0 ≤ u ∧ u ≤ 255) (h : FAt w g p M f (frB t u zs ++ ys) false) :
    Calls Try.prog 31 #[.pointer (some ⟨g, 0, none⟩)] w fun e w' => ∃ B k f' p', e = .returned (.tuple #[.agg #[.int .i64 t, .int .i64 u, .slice B zs.length k], .int .i64 0]) ∧
      w'.ownsRow w.heap.size 5 1 (.slice B zs.length k) zs.length (zs.map (Value.int .u8)) ∧ FAt w' g p' M f' ys false ∧ (p' = p ∨ w.heap.size ≤ p') ∧ Off (GP g p) w w' := by
  refine (next_any w g p M f _ false h).mono ?_
  rintro e w' ⟨B, k, rfl, ho, ⟨f', p', hf, hp⟩, hoff⟩
  obtain ⟨e0, e1, e2, e3, e4, e5⟩ := frB_cut t u zs ys h1 h2 ht hu
  obtain ⟨n0, n1, n2, n3⟩ := nq_frame t u zs ys h1 h2 ht hu M
  rw [n1, n2, n3] at hf
  rw [e1, e5] at ho
  rw [e1, e3, e4, n0]
  exact ⟨B, k, f', p', rfl, ho, hf, hp, hoff⟩
/-- A flow that is told bad. -/
theorem next_bad (w : World) (g p M f : Nat) (qs : List Int) (d : Bool) (hE : gE d qs = 2) (h : FAt w g p M f qs d) :
    Calls Try.prog 31 #[.pointer (some ⟨g, 0, none⟩)] w fun e w' => ∃ B k t u m, e = .returned (.tuple #[.agg #[.int .i64 t, .int .i64 u, .slice B m k], .int .i64 2]) ∧
      (∃ f' p', FAt w' g p' 0 f' [] true ∧ (p' = p ∨ w.heap.size ≤ p')) ∧ Off (GP g p) w w' := by
  refine (next_any w g p M f _ d h).mono ?_
  rintro e w' ⟨B, k, rfl, ho, ⟨f', p', hf, hp⟩, hoff⟩
  have n1 : nQ d qs = [] := by unfold nQ; rw [if_pos hE]
  have n2 : nD d qs = true := by unfold nD; rw [hE]; rfl
  have n3 : nM d qs M = 0 := by unfold nM; rw [if_pos hE]
  rw [n1, n2, n3] at hf
  rw [hE]
  exact ⟨B, k, _, _, _, rfl, ⟨f', p', hf, hp⟩, hoff⟩

end Go.Proofs.Ythmendcdfhlkkaa
