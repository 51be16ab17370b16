/- Package tell: Bytes of replies of 43: putObjects, moreOf. -/
import Derived.Test.YtoljpdamalcjeaaPTell4
import Derived.Test.YtoljpdamalcjeaaPList
import Derived.Test.YtoljpdamalcjeaaIden2
import Derived.Laws.IdiomStrings
import Derived.Deep.RegionLaw
namespace Go.Proofs.Ytoljpdamalcjeaa
open Go.ChangeShapes Go.WideShapes Go.ChangeAt Go.RowKit
set_option linter.unusedVariables false
set_option linter.unusedSimpArgs false

/-- The bytes of a text. -/
def bsOf (S : ByteArray) : List Int := S.data.toList.map fun b => (b.toNat : Int)
theorem bsOf_length (S : ByteArray) : (bsOf S).length = S.size := by unfold bsOf; rw [List.length_map, Array.length_toList]; rfl
/-- The bytes of objects. -/
def flatO (os : List Ob) : List Int := os.flatMap fun o => o.1 :: (o.2.size : Int) :: bsOf o.2
theorem flatO_length (os : List Ob) : (flatO os).length = used os := by
  induction os with
  | nil => rfl
  | cons o os ih =>
    rw [used_cons, ← ih]
    simp [flatO, bsOf_length]
    omega
theorem flatO_snoc (os : List Ob) (x : Int) (S : ByteArray) : flatO (os ++ [(x, S)]) = flatO os ++ (x :: (S.size : Int) :: bsOf S) := by simp [flatO]

/-- A text as bytes: new memory, and a draw. -/
theorem conv_text (S : ByteArray) : ∃ (cap : World → Nat) (cw : World → World), (∀ W : World, (convert 9 22 (.string S)).run Try.prog W = .ok (.slice (some ⟨W.heap.size, 0, none⟩) S.size (cap W)) (cw W)) ∧
    ∀ W : World, Below W.heap.size W (cw W) ∧ Row .u8 (cw W) (cw W).heap.size (some ⟨W.heap.size, 0, none⟩) S.size (bsOf S) ∧ W.heap.size < (cw W).heap.size := by
  refine ⟨_, _, fun W => run_bytes_of_string W 9 22 5 S Try.underlying9 Try.underlying22 Try.underlying5, fun W => ⟨(Below.refl _ _).drew.alloc (Nat.le_refl _) _, ⟨bsOf_length S, fun h0 => ⟨_, 0, rfl, by simp, fun j hj => ?_⟩⟩, by simp⟩⟩
  have hh := heap_alloc_new W.drew (.cells (bytesRow S (grownCap W S.size 0 5)) 5 ((bytesRow S (grownCap W S.size 0 5)).size, (bytesRow S (grownCap W S.size 0 5)).size + 1))
  rw [Nat.zero_add, show W.heap.size = W.drew.heap.size from rfl, cell_of_row _ _ _ _ _ _ hh]
  unfold bytesRow bsOf
  have hs : j < S.data.size := hj
  simp [Array.getElem?_append, hj, hs, List.getD_eq_getElem?_getD]

/-- Append at a step, with what comes out named, and its block. -/
theorem step_append_at {P : Program} {w : World} {ops : Array Oper} {o : Oper} {a : Act} {K : Act → World → Prop} {Q : Exit → Act → World → Prop} {E : Prop} (s x : Operand) (t : TypeId)
    (base : Nat) (e : TypeId) (z : Value) (bytes : Nat) (ht : P.underlying t = some (.slice e)) (hi : (P.info? e).map (fun i => (i.zero, i.size, i.bytes)) = some (some z, 1, bytes)) (hzs : z.cells.size = 1)
    (v : Value) (n : Nat) (xs : List Value) (m : Nat) (vs : List Value) (nm : Nat) (ys : List Value) (hnm : n + m = nm) (hys : xs ++ vs = ys) (h1 : ∀ u ∈ vs, u.oneCell' = true) (hm : n + m ≤ 1000000) (hby : bytes ≤ 1000)
    (ho : o.guard = none ∧ o.op = .call { callee := .builtin .append, args := #[s, x], argTypes := #[t, t] } ∧ a.eval s = v)
    (hown : w.ownsRow base e 1 v n xs) (hr : ∃ A c, a.eval x = .slice A m c ∧ RowV w w.heap.size A m vs) (hbase : base ≤ w.heap.size)
    (h : ∀ A' c' w', w'.ownsRow base e 1 (.slice A' nm c') nm ys → w.grownBy w' v.ownBlock → ((Value.slice A' nm c').ownBlock = v.ownBlock ∨ (Value.slice A' nm c').ownBlock = some w.heap.size) → K (a.put o.dst (.slice A' nm c')) w') :
    if Region.wanted o (yielded ops a.tmps) = true then Oper.wp P o a w K Q else E := by
  subst hnm hys
  obtain ⟨hgd, hop, hs⟩ := ho
  obtain ⟨A, c, hx, hr⟩ := hr
  have hw : Region.wanted o (yielded ops a.tmps) = true := by simp [Region.wanted, hgd]
  rw [if_pos hw]
  obtain ⟨v', w', hrun, h2, h3, h4⟩ := run_append_row (P := P) w base t o.type e z bytes ht hi hzs v n xs hown w.heap.size A m c vs hr h1 hm hby hbase
  obtain ⟨A', c', rfl⟩ := own_slice h2
  unfold Oper.wp execOp
  simp only [hop, resolve, invoke, builtin, Sem.run_bind, Sem.run_pure, Result.andThen_ok, List.map_toArray, List.map_cons, List.map_nil, hs, hx, hrun]
  exact h A' c' w' h2 h3 h4
theorem far_row' {k : IntKind} {w w' : World} {B : Option Addr} {m : Nat} {row : Option Nat} {ls : List Int} (h : Row k w w.heap.size B m ls) (hf : ∀ ad : Addr, B = some ad → some ad.block ≠ row) (hg : w.grownBy w' row) : Row k w' w'.heap.size B m ls := by
  refine ⟨h.1, fun hn => ?_⟩
  obtain ⟨b, off, e, hb, hc⟩ := h.2 hn
  exact ⟨b, off, e, Nat.lt_of_lt_of_le hb hg.size, fun j hj => hg.cell (hc j hj) (hf ⟨b, off, none⟩ e)⟩
theorem own1_far {w : World} {base : Nat} {e : TypeId} {v : Value} {n : Nat} {xs : List Value} (h : w.ownsRow base e 1 v n xs) (b : Nat) (hb : w.heap.size ≤ b) : some b ≠ v.ownBlock := by
  rcases h.2 with ⟨rfl, _⟩ | ⟨g, cap, cur, rfl, _, hh, _⟩
  · simp [Value.ownBlock]
  · intro he
    have he2 : b = g := by simpa [Value.ownBlock] using he
    rw [Array.getElem?_eq_none (by omega)] at hh
    cases hh
theorem own_tight {w : World} {base : Nat} {e : TypeId} {g n c : Nat} {xs : List Value} (h : w.ownsRow base e 1 (.slice (some ⟨g, 0, none⟩) n c) n xs) : w.ownsRow g e 1 (.slice (some ⟨g, 0, none⟩) n c) n xs := by
  refine ⟨h.1, ?_⟩
  rcases h.2 with h0 | ⟨g', cap, cur, hv, hg, rest⟩
  · exact .inl h0
  · refine .inr ⟨g', cap, cur, hv, ?_, rest⟩
    injection hv with e1
    injection e1 with e1
    injection e1 with e1
    exact Nat.le_of_eq e1

set_option maxRecDepth 100000 in
set_option maxHeartbeats 2000000 in
theorem putobjs_any (g0 : Nat) (A : Option Addr) (n c : Nat) (zs : List Int) (OA : Option Addr) (ol oc : Nat) (os : List Ob) (w : World) (hown : w.ownsRow g0 5 1 (.slice A n c) n (zs.map (Value.int .u8))) (hl : OL w g0 OA ol os) (hg : g0 ≤ w.heap.size) (hid : ∀ o ∈ os, 0 ≤ o.1 ∧ o.1 ≤ 255) (hsz : ∀ o ∈ os, o.2.size ≤ 255) (hol : ol ≤ 255) (hu : n + 1 + used os ≤ 1000) :
    Calls Try.prog 62 #[.slice A n c, .slice OA ol oc] w fun e w' => ∃ m C cc, e = .returned (.slice C m cc) ∧ m = n + 1 + used os ∧ w'.ownsRow g0 5 1 (.slice C m cc) m ((zs ++ [(ol : Int)] ++ flatO os).map (Value.int .u8)) ∧ Below g0 w w' := by
  have HO := Lib.hid (hown.alloc (.cells #[.int .u8 (ol : Int)] 5))
  have hw1 : WholeV (w.alloc (.cells #[.int .u8 (ol : Int)] 5)) w.heap.size 5 [.int .u8 (ol : Int)] := heap_alloc_new w _
  have HW := Lib.hid hw1.row
  have HB : Hid (Below g0 w (w.alloc (.cells #[.int .u8 (ol : Int)] 5))) := (Below.refl _ _).alloc hg _
  have HL := Lib.hid (fun W (hb : Below g0 w W) => RowV.below hl hb)
  have wm : IntKind.u8.wrap (ol : Int) = ol := IntWalk.u8_in _ (by omega)
  have hsz1 : g0 ≤ (w.alloc (.cells #[.int .u8 (ol : Int)] 5)).heap.size := by simp; omega
  have HSZ := Lib.hid hsz1
  have HLE : Hid (os.length = ol) := by
    have := hl.1
    rw [obs_length] at this
    show _ = _
    omega
  have HID := Lib.hid hid
  have HSS := Lib.hid hsz
  have HU := Lib.hid hu
  have hn1 : n ≤ 1000 := by omega
  clear hown hl hw1 hsz1 hid hsz hu
  go_enter Try.func62, Try.ntmps62
  go_wp2_with (at_builtin
               refine wpList_append_row _ (o := ⟨some 12, _, _, _, _, _⟩) ?_ (.tmp 7) (.tmp 11) 22 ?_ g0 5 (.int .u8 0) 1 Try.underlying22 info5 rfl (.slice A n c) n _ ?_ HO.out _ (some ⟨w.heap.size, 0, none⟩) 1 1 _ ?_ HW.out (by simp [Value.oneCell']) (by omega) (by omega) HSZ.out ?_
               · rfl
               · rfl
               · rfl
               · rfl
               intro v1 w1 hown1 hg1 hat1
               obtain ⟨A1, c1, rfl⟩ := own_slice hown1
               have HB1 := Lib.hid (below_append HB.out HO.out hg1 HSZ.out)
               have HO1 := Lib.hid hown1
               have HS1 : Hid (g0 ≤ w1.heap.size) := Nat.le_trans HSZ.out hg1.size
               clear hown1 hg1 hat1)
  go_loopw [0, 15] (fun b i wr => ∃ (k m : Nat) (B : Option Addr) (d : Nat), k ≤ ol ∧ i = .int .i64 (k : Int) ∧ b = .slice B m d ∧ Hid (m = n + 1 + used (os.take k)) ∧ Hid (wr.ownsRow g0 5 1 (.slice B m d) m ((zs ++ [(ol : Int)] ++ flatO (os.take k)).map (Value.int .u8))) ∧ Hid (Below g0 w wr) ∧ Hid (g0 ≤ wr.heap.size)) (fun _ i _ => ol - (intOf i).toNat)
  case atStart =>
    refine ⟨0, n + 1, A1, c1, by omega, rfl, rfl, Lib.hid (by simp [used]), Lib.hid ?_, HB1, HS1⟩
    have h := HO1.out
    have e : (zs ++ [(ol : Int)] ++ flatO (os.take 0)).map (Value.int .u8) = zs.map (Value.int .u8) ++ [.int .u8 (ol : Int)] := by simp [flatO]
    rw [e]
    exact h
  case round =>
    obtain ⟨k, m, B, d, hk, rfl, rfl, HM, HOr, HBr, HSr⟩ := hrel
    by_cases hlt : k < ol
    · have hi : (k : Int) < (ol : Int) := by omega
      obtain ⟨bA, offA, hAA, hbA, hc1, hc2⟩ := OL.at_ (HL.out _ HBr.out) k hlt
      subst hAA
      obtain ⟨x, hx⟩ : ∃ x, (os.getD k ob0).1 = x := ⟨_, rfl⟩
      obtain ⟨S, hS⟩ : ∃ S, (os.getD k ob0).2 = S := ⟨_, rfl⟩
      have hmem : os.getD k ob0 ∈ os := by rw [List.getD_eq_getElem?_getD, List.getElem?_eq_getElem (by rw [HLE.out]; exact hlt)]; exact List.getElem_mem _
      have hpair : os.getD k ob0 = (x, S) := by rw [← hx, ← hS]
      rw [hpair] at hmem
      have hx0 : 0 ≤ x := (HID.out _ hmem).1
      have hx1 : x ≤ 255 := (HID.out _ hmem).2
      have hs1 : S.size ≤ 255 := HSS.out _ hmem
      have hus := used_take os k (by rw [HLE.out]; exact hlt)
      rw [hpair] at hus
      have htk : os.take (k + 1) = os.take k ++ [(x, S)] := by
        rw [List.take_succ_eq_append_getElem (by rw [HLE.out]; exact hlt), ← hpair]
        simp [List.getD_eq_getElem?_getD, show k < os.length by rw [HLE.out]; exact hlt]
      have hule := used_le os (k + 1)
      rw [hx] at hc1
      rw [hS] at hc2
      have wx : IntKind.u8.wrap x = x := IntWalk.u8_in _ (by omega)
      obtain ⟨cap, cw, hcv, hcr⟩ := conv_text S
      have HCR := Lib.hid hcr
      have HUS := Lib.hid hus
      have HTK := Lib.hid htk
      have hm1 : m + 2 ≤ 1000 := by have := HM.out; have := HU.out; have h3 : (x, S).2.size = S.size := rfl; omega
      clear hx hS hpair hmem hus htk hule hcr
      go_wp2
      obtain ⟨w2, hw2⟩ : ∃ w2, wr.alloc (.cells #[.int .i64 x, .string S] 98) = w2 := ⟨_, rfl⟩
      have hb2 : Below wr.heap.size wr w2 := by rw [← hw2]; exact (Below.refl _ _).alloc (Nat.le_refl _) _
      have hX2 : WholeV w2 wr.heap.size 98 [.int .i64 x, .string S] := by rw [← hw2]; exact heap_alloc_new wr _
      have HX2 := Lib.hid hX2
      have hq0 := hX2.cell 0
      have hq1 := hX2.cell 1
      have hlt2 : wr.heap.size < w2.heap.size := hX2.lt
      have HO2 := Lib.hid (own_keep HOr.out hb2)
      have HB2 := Lib.hid (HBr.out.trans (hb2.mono HSr.out))
      rw [hw2]
      clear hw2 hb2 hX2
      have hg2 : g0 ≤ w2.heap.size := Nat.le_trans HSr.out (by omega)
      have HNE : Hid (∀ b, wr.heap.size ≤ b → some b ≠ (Value.slice B m d).ownBlock) := Lib.hid (fun b hb => own1_far HOr.out _ hb)
      obtain ⟨X1, hX1⟩ : ∃ X1, (w2.alloc (.cells #[.int .u8 x] 5)).drew = X1 := ⟨_, rfl⟩
      have HZ1 : Hid (X1.heap.size = w2.heap.size + 1) := by rw [← hX1]; exact Lib.hid (by simp)
      have BA : Hid (Below w2.heap.size w2 X1) := by rw [← hX1]; exact ((Below.refl _ _).alloc (Nat.le_refl _) _).drew
      have BC : Hid (Below w2.heap.size w2 (cw X1)) := BA.out.trans ((HCR.out X1).1.mono BA.out.size)
      have RA : Hid (RowV X1 X1.heap.size (some ⟨w2.heap.size, 0, none⟩) 1 [.int .u8 x]) := by rw [← hX1]; exact built_row w2 _ [.int .u8 x] _ (Below.refl _ _).drew
      have RC : Hid (RowV (cw X1) (cw X1).heap.size (some ⟨w2.heap.size, 0, none⟩) 1 [.int .u8 x]) := (RA.out.below (HCR.out X1).1).more (HCR.out X1).1.size
      have OA := Lib.hid (own_keep HO2.out BA.out)
      have OC := Lib.hid (own_keep HO2.out BC.out)
      have SA : Hid (g0 ≤ X1.heap.size) := Nat.le_trans hg2 BA.out.size
      have SC : Hid (g0 ≤ (cw X1).heap.size) := Nat.le_trans hg2 BC.out.size
      have XA := Lib.hid (HX2.out.below BA.out HX2.out.lt)
      have XC := Lib.hid (HX2.out.below BC.out HX2.out.lt)
      have KA := Lib.hid (HB2.out.trans (BA.out.mono hg2))
      have KC := Lib.hid (HB2.out.trans (BC.out.mono hg2))
      have RT : Hid (∀ W, (cw X1).grownBy W (Value.slice B m d).ownBlock → Row .u8 W W.heap.size (some ⟨X1.heap.size, 0, none⟩) S.size (bsOf S)) := fun W hg => far_row' (HCR.out X1).2.1 (fun ad h => by injection h with h; subst h; exact HNE.out _ (by show wr.heap.size ≤ X1.heap.size; have := HZ1.out; omega)) hg
      obtain ⟨Y1, hY1⟩ : ∃ Y1, cw w2.drew = Y1 := ⟨_, rfl⟩
      have BY : Hid (Below w2.heap.size w2 Y1) := by rw [← hY1]; exact (Below.refl _ _).drew.trans (HCR.out w2.drew).1
      have RY : Hid (Row .u8 Y1 Y1.heap.size (some ⟨w2.heap.size, 0, none⟩) S.size (bsOf S)) := by rw [← hY1]; exact (HCR.out w2.drew).2.1
      have ZY : Hid (w2.heap.size < Y1.heap.size) := by rw [← hY1]; exact (HCR.out w2.drew).2.2
      obtain ⟨X3, hX3⟩ : ∃ X3, Y1.alloc (.cells #[.int .u8 x] 5) = X3 := ⟨_, rfl⟩
      have BE : Hid (Below Y1.heap.size Y1 X3) := by rw [← hX3]; exact (Below.refl _ _).alloc (Nat.le_refl _) _
      have BD : Hid (Below w2.heap.size w2 X3) := BY.out.trans (BE.out.mono BY.out.size)
      have RD : Hid (RowV X3 X3.heap.size (some ⟨Y1.heap.size, 0, none⟩) 1 [.int .u8 x]) := by rw [← hX3]; exact built_row Y1 _ [.int .u8 x] _ (Below.refl _ _)
      have OD := Lib.hid (own_keep HO2.out BD.out)
      have SD : Hid (g0 ≤ X3.heap.size) := Nat.le_trans hg2 BD.out.size
      have XD := Lib.hid (HX2.out.below BD.out HX2.out.lt)
      have XY := Lib.hid (HX2.out.below BY.out HX2.out.lt)
      have KD := Lib.hid (HB2.out.trans (BD.out.mono hg2))
      have RU : Hid (∀ W, X3.grownBy W (Value.slice B m d).ownBlock → Row .u8 W W.heap.size (some ⟨w2.heap.size, 0, none⟩) S.size (bsOf S)) := fun W hg => far_row' ((RY.out.below BE.out).more BE.out.size) (fun ad h => by injection h with h; subst h; exact HNE.out _ (Nat.le_of_lt hlt2)) hg
      have hxy0 := XY.out.cell 0
      have hxy1 := XY.out.cell 1
      have hxd0 := XD.out.cell 0
      have hxd1 := XD.out.cell 1
      have hxa0 := XA.out.cell 0
      have hxa1 := XA.out.cell 1
      have hxc0 := XC.out.cell 0
      have hxc1 := XC.out.cell 1
      go_region_law (first
        | (refine step_append_at (.tmp 19) (.tmp 23) 22 g0 5 (.int .u8 0) 1 Try.underlying22 info5 rfl (.slice B m d) m ((zs ++ [(ol : Int)] ++ flatO (os.take k)).map (Value.int .u8)) 1 [.int .u8 x] (m + 1) ((zs ++ [(ol : Int)] ++ flatO (os.take k) ++ [x]).map (Value.int .u8)) rfl (by simp) (by simp [Value.oneCell']) (by omega) (by omega) ?_ ?_ ?_ ?_ ?_
           · exact ⟨rfl, rfl, (by first | rfl | (simp [eval_put_tmp, size_put]; done) | (simp [Act.eval]; done))⟩
           · first | exact OA.out | exact OC.out | exact OD.out
           · first
               | (refine ⟨some ⟨w2.heap.size, 0, none⟩, 1, ?_, ?_⟩
                  · first | rfl | (simp [eval_put_tmp, size_put]; done) | (simp [Act.eval]; done)
                  · first | exact RA.out | exact RC.out)
               | (refine ⟨some ⟨Y1.heap.size, 0, none⟩, 1, ?_, ?_⟩
                  · first | rfl | (simp [eval_put_tmp, size_put]; done) | (simp [Act.eval]; done)
                  · exact RD.out)
           · first | exact SA.out | exact SC.out | exact SD.out
           intro A6 c6 w6 hown hg hat
           obtain ⟨g6, cc6, hv6, hg6, hrow6⟩ := row_of_own hown (by omega)
           injection hv6 with hA6 _ hc6
           subst hA6 hc6
           have HT6 := Lib.hid (own_tight hown)
           have hz6 : g6 < w6.heap.size := by
             obtain ⟨b', o', e', hb', _⟩ := hrow6.2 (by omega)
             injection e' with e'
             injection e' with e'
             subst e'
             exact hb'
           have hX6 : WholeV w6 wr.heap.size 98 [.int .i64 x, .string S] := by first | exact (hg.block wr.heap.size XA.out.lt (HNE.out _ (Nat.le_refl _))).trans XA.out | exact (hg.block wr.heap.size XC.out.lt (HNE.out _ (Nat.le_refl _))).trans XC.out | exact (hg.block wr.heap.size XD.out.lt (HNE.out _ (Nat.le_refl _))).trans XD.out
           have hr0 := hX6.cell 0
           have hr1 := hX6.cell 1
           have HB6 : Hid (Below g0 w w6) := by first | exact below_append KA.out OA.out hg SA.out | exact below_append KC.out OC.out hg SC.out | exact below_append KD.out OD.out hg SD.out
           have HS6 : Hid (g0 ≤ w6.heap.size) := by first | exact Nat.le_trans SA.out hg.size | exact Nat.le_trans SC.out hg.size | exact Nat.le_trans SD.out hg.size
           have HG6 := Lib.hid hg6
           have HNG : Hid (X1.heap.size ≠ g6 ∨ True) := Or.inr trivial
           first
             | (have HRR := Lib.hid (RT.out _ hg)
                have HNG : Hid (X1.heap.size ≠ g6) := by
                  intro h
                  rcases hat with hat | hat
                  · exact HNE.out X1.heap.size (by have := HZ1.out; omega) (by rw [← hat, h]; rfl)
                  · have h9 : some g6 = some (cw X1).heap.size := hat
                    injection h9 with h9
                    have := (HCR.out X1).2.2
                    omega)
             | (have HRR := Lib.hid (RU.out _ hg)
                have HNG : Hid (w2.heap.size ≠ g6) := by
                  intro h
                  rcases hat with hat | hat
                  · exact HNE.out w2.heap.size (Nat.le_of_lt hlt2) (by rw [← hat, h]; rfl)
                  · have h9 : some g6 = some X3.heap.size := hat
                    injection h9 with h9
                    have := ZY.out
                    have := BE.out.size
                    omega)
             | skip
           clear hown hg hat hX6 hrow6 hg6)
        | (go_simp
           go_at_call 58
           refine (pputlist_any g6 (m + 1) c6 (zs ++ [(ol : Int)] ++ flatO (os.take k) ++ [x]) _ S.size _ (bsOf S) _ ?_ ?_ ?_ ?_ (by omega) (by omega)).mono ?_
           · first
               | exact HT6.out
               | exact own_keep HT6.out (HCR.out _).1
           · first
               | exact HRR.out
               | exact (HCR.out _).2.1
           · first
               | exact hz6
               | exact Nat.lt_of_lt_of_le hz6 (HCR.out _).1.size
           · intro ad h
             injection h with h
             subst h
             first
               | exact HNG.out
               | exact Nat.ne_of_gt hz6
           rintro e w8 ⟨C8, c8, rfl, ho8, hb8⟩
           have HO8 := Lib.hid (own_mono (b' := g0) ho8 HG6.out)
           have HB8 : Hid (Below g0 w w8) := by first | exact (HB6.out.trans ((HCR.out w6).1.mono HS6.out)).trans (hb8.mono HG6.out) | exact HB6.out.trans (hb8.mono HG6.out)
           have HS8 : Hid (g0 ≤ w8.heap.size) := by first | exact Nat.le_trans HS6.out (Nat.le_trans (HCR.out w6).1.size hb8.size) | exact Nat.le_trans HS6.out hb8.size
           clear ho8 hb8))
      all_goals
        go_wp2
        go_roundw
        case rel =>
          refine ⟨k + 1, m + 1 + 1 + S.size, C8, c8, by omega, by go_num, rfl, Lib.hid ?_, Lib.hid ?_, HB8, HS8⟩
          · have h1 := HM.out
            have h2 := HUS.out
            have h3 : (x, S).2.size = S.size := rfl
            omega
          · have h := HO8.out
            have e : zs ++ [(ol : Int)] ++ flatO (os.take (k + 1)) = zs ++ [(ol : Int)] ++ flatO (os.take k) ++ [x] ++ [(S.size : Int)] ++ bsOf S := by rw [HTK.out, flatO_snoc]; simp
            rw [e]
            exact h
        case measure => simp [intOf]; omega
    · obtain rfl : k = ol := by omega
      have hd : decide (k < k) = false := by simp
      have ht : os.take k = os := List.take_of_length_le (by rw [HLE.out]; omega)
      have hm := HM.out
      have ho := HOr.out
      rw [ht] at hm ho
      have HM2 := Lib.hid hm
      have HO2 := Lib.hid ho
      clear hm ho ht
      go_wp2
      go_ret
      exact ⟨m, B, d, rfl, HM2.out, HO2.out, HBr.out⟩

end Go.Proofs.Ytoljpdamalcjeaa
