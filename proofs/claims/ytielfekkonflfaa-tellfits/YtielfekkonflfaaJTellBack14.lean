/- Joined: PList PBytesD PPut PBytesL PRight PRight2 PBytes PBytesG PBytesD2 PBytesX. -/
import Derived.Test.YtielfekkonflfaaStep
import Derived.Test.YtielfekkonflfaaJTellBack1
import Derived.Test.YtielfekkonflfaaJTellBack2
import Derived.Laws.IdiomStrings
import Derived.Deep.RegionLaw
import Derived.Test.YtielfekkonflfaaPSmall
import Derived.Test.YtielfekkonflfaaAskWords
import Derived.Test.YtielfekkonflfaaBitsPack
import Derived.Test.YtielfekkonflfaaPOr
import Derived.Test.YtielfekkonflfaaAskWhole
import Derived.Test.YtielfekkonflfaaAskBytes
import Derived.Deep.RegionHeld3
import Derived.Test.YtielfekkonflfaaJTellBack5
namespace Go.Proofs.Ytielfekkonflfaa
open Go.ChangeShapes Go.WideShapes Go.ChangeAt Go.RowKit
set_option linter.unusedVariables false
set_option linter.unusedSimpArgs false

/-- A row outside of a block, behind an append onto that block. -/
theorem far_row {k : IntKind} {w w' : World} {B : Option Addr} {m g : Nat} {ls : List Int} (h : Row k w w.heap.size B m ls) (hf : ∀ ad : Addr, B = some ad → ad.block ≠ g) (hg : w.grownBy w' (some g)) : Row k w' w'.heap.size B m ls := by
  refine ⟨h.1, fun hn => ?_⟩
  obtain ⟨b, off, e, hb, hc⟩ := h.2 hn
  refine ⟨b, off, e, Nat.lt_of_lt_of_le hb hg.size, fun j hj => ?_⟩
  exact hg.cell (hc j hj) (by have := hf _ e; simpa using this)
/-- putList onto a row of one's own. -/
theorem pputlist_any (g n c : Nat) (zs : List Int) (B : Option Addr) (m d : Nat) (ls : List Int) (w : World) (hr : w.ownsRow g 5 1 (.slice (some ⟨g, 0, none⟩) n c) n (zs.map (Value.int .u8))) (hl : Row .u8 w w.heap.size B m ls) (hg : g < w.heap.size) (hf : ∀ ad : Addr, B = some ad → ad.block ≠ g) (hn : n ≤ 1000) (hm : m ≤ 255) :
    Calls Try.prog 20 #[.slice (some ⟨g, 0, none⟩) n c, .slice B m d] w fun e w' => ∃ C cc, e = .returned (.slice C (n + 1 + m) cc) ∧ w'.ownsRow g 5 1 (.slice C (n + 1 + m) cc) (n + 1 + m) ((zs ++ [(m : Int)] ++ ls).map (Value.int .u8)) ∧ Below g w w' := by
  have HL := Lib.hid hl
  have HF := Lib.hid hf
  have HO := Lib.hid (hr.alloc (.cells #[.int .u8 (m : Int)] 5))
  have hw1 : WholeV (w.alloc (.cells #[.int .u8 (m : Int)] 5)) w.heap.size 5 [.int .u8 (m : Int)] := heap_alloc_new w _
  have HW := Lib.hid hw1.row
  have HB : Hid (Below g w (w.alloc (.cells #[.int .u8 (m : Int)] 5))) := (Below.refl _ _).alloc (by omega) _
  have hbl : Below w.heap.size w (w.alloc (.cells #[.int .u8 (m : Int)] 5)) := (Below.refl _ _).alloc (Nat.le_refl _) _
  have HL1 := Lib.hid ((hl.below hbl).more hbl.size)
  have wm : IntKind.u8.wrap (m : Int) = m := IntWalk.u8_in _ (by omega)
  have hsz : g ≤ (w.alloc (.cells #[.int .u8 (m : Int)] 5)).heap.size := by simp; omega
  have HSZ := Lib.hid hsz
  clear hr hl hf hw1 hbl hsz
  go_enter Try.func20, Try.ntmps20
  go_wp2_with (first
    | (at_builtin
       refine wpList_append_row _ (o := ⟨some 10, _, _, _, _, _⟩) rfl (.tmp 5) (.tmp 9) 30 rfl g 5 (.int .u8 0) 1 Try.underlying30 info5 rfl (.slice (some ⟨g, 0, none⟩) n c) n _ rfl HO.out _ (some ⟨w.heap.size, 0, none⟩) 1 1 _ rfl HW.out (by simp [Value.oneCell']) (by omega) (by omega) HSZ.out ?_
       intro v1 w1 hown1 hg1 hat1
       obtain ⟨A1, c1, rfl⟩ := own_slice hown1
       have HB1 := Lib.hid (below_append HB.out HO.out hg1 HSZ.out)
       have HL2 := Lib.hid (far_row HL1.out HF.out hg1)
       have HO1 := Lib.hid hown1
       have HS1 : Hid (g ≤ w1.heap.size) := Nat.le_trans HSZ.out hg1.size
       clear hown1 hg1 hat1)
    | (at_builtin
       refine wpList_append_row _ (o := ⟨some 13, _, _, _, _, _⟩) rfl (.tmp 11) (.tmp 12) 30 rfl g 5 (.int .u8 0) 1 Try.underlying30 info5 rfl (.slice A1 (n + 1) c1) (n + 1) _ rfl HO1.out _ B m d _ rfl HL2.out.v (one_cells _ _) (by omega) (by omega) HS1.out ?_
       intro v2 w2 hown2 hg2 hat2
       obtain ⟨A2, c2, rfl⟩ := own_slice hown2
       have HB2 := Lib.hid (below_append HB1.out HO1.out hg2 HS1.out)
       have HO2 := Lib.hid hown2
       clear hown2 hg2 hat2))
  go_ret
  refine ⟨A2, c2, rfl, ?_, HB2.out⟩
  have e : (zs ++ [(m : Int)] ++ ls).map (Value.int .u8) = zs.map (Value.int .u8) ++ [.int .u8 (m : Int)] ++ ls.map (Value.int .u8) := by simp
  rw [e]
  exact HO2.out

theorem built_ints (k : IntKind) (X W : World) (zs : List Int) (T : TypeId) (h : Below (X.alloc (.cells (zs.map (Value.int k)).toArray T)).heap.size (X.alloc (.cells (zs.map (Value.int k)).toArray T)) W) : Row k W W.heap.size (some ⟨X.heap.size, 0, none⟩) zs.length zs := by
  have h1 := built_row X W (zs.map (Value.int k)) T h
  rw [List.length_map] at h1
  exact h1.ints

/-- The bytes of a text. -/
def bsOf (S : ByteArray) : List Int := S.data.toList.map fun b => (b.toNat : Int)
theorem bsOf_length (S : ByteArray) : (bsOf S).length = S.size := by unfold bsOf; rw [List.length_map, Array.length_toList]; rfl
/-- The bytes of objects. -/
def flatO (os : List Ob) : List Int := os.flatMap fun o => o.1 :: (o.2.size : Int) :: bsOf o.2
theorem flatO_length (os : List Ob) : (flatO os).length = used os := by
  induction os with
  | nil => rfl
  | cons o os ih =>
    rw [used_cons, ← ih]
    simp [flatO, bsOf_length]
    omega
theorem flatO_snoc (os : List Ob) (x : Int) (S : ByteArray) : flatO (os ++ [(x, S)]) = flatO os ++ (x :: (S.size : Int) :: bsOf S) := by simp [flatO]

/-- A text as bytes: new memory, and a draw. -/
theorem conv_text (S : ByteArray) : ∃ (cap : World → Nat) (cw : World → World), (∀ W : World, (convert 9 30 (.string S)).run Try.prog W = .ok (.slice (some ⟨W.heap.size, 0, none⟩) S.size (cap W)) (cw W)) ∧
    ∀ W : World, Below W.heap.size W (cw W) ∧ Row .u8 (cw W) (cw W).heap.size (some ⟨W.heap.size, 0, none⟩) S.size (bsOf S) ∧ W.heap.size < (cw W).heap.size := by
  refine ⟨_, _, fun W => run_bytes_of_string W 9 30 5 S Try.underlying9 Try.underlying30 Try.underlying5, fun W => ⟨(Below.refl _ _).drew.alloc (Nat.le_refl _) _, ⟨bsOf_length S, fun h0 => ⟨_, 0, rfl, by simp, fun j hj => ?_⟩⟩, by simp⟩⟩
  have hh := heap_alloc_new W.drew (.cells (bytesRow S (grownCap W S.size 0 5)) 5 ((bytesRow S (grownCap W S.size 0 5)).size, (bytesRow S (grownCap W S.size 0 5)).size + 1))
  rw [Nat.zero_add, show W.heap.size = W.drew.heap.size from rfl, cell_of_row _ _ _ _ _ _ hh]
  unfold bytesRow bsOf
  have hs : j < S.data.size := hj
  simp [Array.getElem?_append, hj, hs, List.getD_eq_getElem?_getD]

/-- Append at a step, with what comes out named, and its block. -/
theorem step_append_at {P : Program} {w : World} {ops : Array Oper} {o : Oper} {a : Act} {K : Act → World → Prop} {Q : Exit → Act → World → Prop} {E : Prop} (s x : Operand) (t : TypeId)
    (base : Nat) (e : TypeId) (z : Value) (bytes : Nat) (ht : P.underlying t = some (.slice e)) (hi : (P.info? e).map (fun i => (i.zero, i.size, i.bytes)) = some (some z, 1, bytes)) (hzs : z.cells.size = 1)
    (v : Value) (n : Nat) (xs : List Value) (m : Nat) (vs : List Value) (nm : Nat) (ys : List Value) (hnm : n + m = nm) (hys : xs ++ vs = ys) (h1 : ∀ u ∈ vs, u.oneCell' = true) (hm : n + m ≤ 1000000) (hby : bytes ≤ 1000)
    (ho : o.guard = none ∧ o.op = .call { callee := .builtin .append, args := #[s, x], argTypes := #[t, t] } ∧ a.eval s = v)
    (hown : w.ownsRow base e 1 v n xs) (hr : ∃ A c, a.eval x = .slice A m c ∧ RowV w w.heap.size A m vs) (hbase : base ≤ w.heap.size)
    (h : ∀ A' c' w', w'.ownsRow base e 1 (.slice A' nm c') nm ys → w.grownBy w' v.ownBlock → ((Value.slice A' nm c').ownBlock = v.ownBlock ∨ (Value.slice A' nm c').ownBlock = some w.heap.size) → K (a.put o.dst (.slice A' nm c')) w') :
    if Region.wanted o (yielded ops a.tmps) = true then Oper.wp P o a w K Q else E := by
  subst hnm hys
  obtain ⟨hgd, hop, hs⟩ := ho
  obtain ⟨A, c, hx, hr⟩ := hr
  have hw : Region.wanted o (yielded ops a.tmps) = true := by simp [Region.wanted, hgd]
  rw [if_pos hw]
  obtain ⟨v', w', hrun, h2, h3, h4⟩ := run_append_row (P := P) w base t o.type e z bytes ht hi hzs v n xs hown w.heap.size A m c vs hr h1 hm hby hbase
  obtain ⟨A', c', rfl⟩ := own_slice h2
  unfold Oper.wp execOp
  simp only [hop, resolve, invoke, builtin, Sem.run_bind, Sem.run_pure, Result.andThen_ok, List.map_toArray, List.map_cons, List.map_nil, hs, hx, hrun]
  exact h A' c' w' h2 h3 h4
theorem far_row' {k : IntKind} {w w' : World} {B : Option Addr} {m : Nat} {row : Option Nat} {ls : List Int} (h : Row k w w.heap.size B m ls) (hf : ∀ ad : Addr, B = some ad → some ad.block ≠ row) (hg : w.grownBy w' row) : Row k w' w'.heap.size B m ls := by
  refine ⟨h.1, fun hn => ?_⟩
  obtain ⟨b, off, e, hb, hc⟩ := h.2 hn
  exact ⟨b, off, e, Nat.lt_of_lt_of_le hb hg.size, fun j hj => hg.cell (hc j hj) (hf ⟨b, off, none⟩ e)⟩
theorem own1_far {w : World} {base : Nat} {e : TypeId} {v : Value} {n : Nat} {xs : List Value} (h : w.ownsRow base e 1 v n xs) (b : Nat) (hb : w.heap.size ≤ b) : some b ≠ v.ownBlock := by
  rcases h.2 with ⟨rfl, _⟩ | ⟨g, cap, cur, rfl, _, hh, _⟩
  · simp [Value.ownBlock]
  · intro he
    have he2 : b = g := by simpa [Value.ownBlock] using he
    rw [Array.getElem?_eq_none (by omega)] at hh
    cases hh
theorem own_tight {w : World} {base : Nat} {e : TypeId} {g n c : Nat} {xs : List Value} (h : w.ownsRow base e 1 (.slice (some ⟨g, 0, none⟩) n c) n xs) : w.ownsRow g e 1 (.slice (some ⟨g, 0, none⟩) n c) n xs := by
  refine ⟨h.1, ?_⟩
  rcases h.2 with h0 | ⟨g', cap, cur, hv, hg, rest⟩
  · exact .inl h0
  · refine .inr ⟨g', cap, cur, hv, ?_, rest⟩
    injection hv with e1
    injection e1 with e1
    injection e1 with e1
    exact Nat.le_of_eq e1

set_option maxRecDepth 100000 in
set_option maxHeartbeats 2000000 in
theorem putobjs_any (g0 : Nat) (A : Option Addr) (n c : Nat) (zs : List Int) (OA : Option Addr) (ol oc : Nat) (os : List Ob) (w : World) (hown : w.ownsRow g0 5 1 (.slice A n c) n (zs.map (Value.int .u8))) (hl : OL w g0 OA ol os) (hg : g0 ≤ w.heap.size) (hid : ∀ o ∈ os, 0 ≤ o.1 ∧ o.1 ≤ 255) (hsz : ∀ o ∈ os, o.2.size ≤ 255) (hol : ol ≤ 255) (hu : n + 1 + used os ≤ 1000) :
    Calls Try.prog 24 #[.slice A n c, .slice OA ol oc] w fun e w' => ∃ m C cc, e = .returned (.slice C m cc) ∧ m = n + 1 + used os ∧ w'.ownsRow g0 5 1 (.slice C m cc) m ((zs ++ [(ol : Int)] ++ flatO os).map (Value.int .u8)) ∧ Below g0 w w' := by
  have HO := Lib.hid (hown.alloc (.cells #[.int .u8 (ol : Int)] 5))
  have hw1 : WholeV (w.alloc (.cells #[.int .u8 (ol : Int)] 5)) w.heap.size 5 [.int .u8 (ol : Int)] := heap_alloc_new w _
  have HW := Lib.hid hw1.row
  have HB : Hid (Below g0 w (w.alloc (.cells #[.int .u8 (ol : Int)] 5))) := (Below.refl _ _).alloc hg _
  have HL := Lib.hid (fun W (hb : Below g0 w W) => RowV.below hl hb)
  have wm : IntKind.u8.wrap (ol : Int) = ol := IntWalk.u8_in _ (by omega)
  have hsz1 : g0 ≤ (w.alloc (.cells #[.int .u8 (ol : Int)] 5)).heap.size := by simp; omega
  have HSZ := Lib.hid hsz1
  have HLE : Hid (os.length = ol) := by
    have := hl.1
    rw [obs_length] at this
    show _ = _
    omega
  have HID := Lib.hid hid
  have HSS := Lib.hid hsz
  have HU := Lib.hid hu
  have hn1 : n ≤ 1000 := by omega
  clear hown hl hw1 hsz1 hid hsz hu
  go_enter Try.func24, Try.ntmps24
  go_wp2_with (at_builtin
               refine wpList_append_row _ (o := ⟨some 12, _, _, _, _, _⟩) ?_ (.tmp 7) (.tmp 11) 30 ?_ g0 5 (.int .u8 0) 1 Try.underlying30 info5 rfl (.slice A n c) n _ ?_ HO.out _ (some ⟨w.heap.size, 0, none⟩) 1 1 _ ?_ HW.out (by simp [Value.oneCell']) (by omega) (by omega) HSZ.out ?_
               · rfl
               · rfl
               · rfl
               · rfl
               intro v1 w1 hown1 hg1 hat1
               obtain ⟨A1, c1, rfl⟩ := own_slice hown1
               have HB1 := Lib.hid (below_append HB.out HO.out hg1 HSZ.out)
               have HO1 := Lib.hid hown1
               have HS1 : Hid (g0 ≤ w1.heap.size) := Nat.le_trans HSZ.out hg1.size
               clear hown1 hg1 hat1)
  go_loopw [0, 15] (fun b i wr => ∃ (k m : Nat) (B : Option Addr) (d : Nat), k ≤ ol ∧ i = .int .i64 (k : Int) ∧ b = .slice B m d ∧ Hid (m = n + 1 + used (os.take k)) ∧ Hid (wr.ownsRow g0 5 1 (.slice B m d) m ((zs ++ [(ol : Int)] ++ flatO (os.take k)).map (Value.int .u8))) ∧ Hid (Below g0 w wr) ∧ Hid (g0 ≤ wr.heap.size)) (fun _ i _ => ol - (intOf i).toNat)
  case atStart =>
    refine ⟨0, n + 1, A1, c1, by omega, rfl, rfl, Lib.hid (by simp [used]), Lib.hid ?_, HB1, HS1⟩
    have h := HO1.out
    have e : (zs ++ [(ol : Int)] ++ flatO (os.take 0)).map (Value.int .u8) = zs.map (Value.int .u8) ++ [.int .u8 (ol : Int)] := by simp [flatO]
    rw [e]
    exact h
  case round =>
    obtain ⟨k, m, B, d, hk, rfl, rfl, HM, HOr, HBr, HSr⟩ := hrel
    by_cases hlt : k < ol
    · have hi : (k : Int) < (ol : Int) := by omega
      obtain ⟨bA, offA, hAA, hbA, hc1, hc2⟩ := OL.at_ (HL.out _ HBr.out) k hlt
      subst hAA
      obtain ⟨x, hx⟩ : ∃ x, (os.getD k ob0).1 = x := ⟨_, rfl⟩
      obtain ⟨S, hS⟩ : ∃ S, (os.getD k ob0).2 = S := ⟨_, rfl⟩
      have hmem : os.getD k ob0 ∈ os := by rw [List.getD_eq_getElem?_getD, List.getElem?_eq_getElem (by rw [HLE.out]; exact hlt)]; exact List.getElem_mem _
      have hpair : os.getD k ob0 = (x, S) := by rw [← hx, ← hS]
      rw [hpair] at hmem
      have hx0 : 0 ≤ x := (HID.out _ hmem).1
      have hx1 : x ≤ 255 := (HID.out _ hmem).2
      have hs1 : S.size ≤ 255 := HSS.out _ hmem
      have hus := used_take os k (by rw [HLE.out]; exact hlt)
      rw [hpair] at hus
      have htk : os.take (k + 1) = os.take k ++ [(x, S)] := by
        rw [List.take_succ_eq_append_getElem (by rw [HLE.out]; exact hlt), ← hpair]
        simp [List.getD_eq_getElem?_getD, show k < os.length by rw [HLE.out]; exact hlt]
      have hule := used_le os (k + 1)
      rw [hx] at hc1
      rw [hS] at hc2
      have wx : IntKind.u8.wrap x = x := IntWalk.u8_in _ (by omega)
      obtain ⟨cap, cw, hcv, hcr⟩ := conv_text S
      have HCR := Lib.hid hcr
      have HUS := Lib.hid hus
      have HTK := Lib.hid htk
      have hm1 : m + 2 ≤ 1000 := by have := HM.out; have := HU.out; have h3 : (x, S).2.size = S.size := rfl; omega
      clear hx hS hpair hmem hus htk hule hcr
      go_wp2
      obtain ⟨w2, hw2⟩ : ∃ w2, wr.alloc (.cells #[.int .i64 x, .string S] 57) = w2 := ⟨_, rfl⟩
      have hb2 : Below wr.heap.size wr w2 := by rw [← hw2]; exact (Below.refl _ _).alloc (Nat.le_refl _) _
      have hX2 : WholeV w2 wr.heap.size 57 [.int .i64 x, .string S] := by rw [← hw2]; exact heap_alloc_new wr _
      have HX2 := Lib.hid hX2
      have hq0 := hX2.cell 0
      have hq1 := hX2.cell 1
      have hlt2 : wr.heap.size < w2.heap.size := hX2.lt
      have HO2 := Lib.hid (own_keep HOr.out hb2)
      have HB2 := Lib.hid (HBr.out.trans (hb2.mono HSr.out))
      rw [hw2]
      clear hw2 hb2 hX2
      have hg2 : g0 ≤ w2.heap.size := Nat.le_trans HSr.out (by omega)
      have HNE : Hid (∀ b, wr.heap.size ≤ b → some b ≠ (Value.slice B m d).ownBlock) := Lib.hid (fun b hb => own1_far HOr.out _ hb)
      obtain ⟨X1, hX1⟩ : ∃ X1, (w2.alloc (.cells #[.int .u8 x] 5)).drew = X1 := ⟨_, rfl⟩
      have HZ1 : Hid (X1.heap.size = w2.heap.size + 1) := by rw [← hX1]; exact Lib.hid (by simp)
      have BA : Hid (Below w2.heap.size w2 X1) := by rw [← hX1]; exact ((Below.refl _ _).alloc (Nat.le_refl _) _).drew
      have BC : Hid (Below w2.heap.size w2 (cw X1)) := BA.out.trans ((HCR.out X1).1.mono BA.out.size)
      have RA : Hid (RowV X1 X1.heap.size (some ⟨w2.heap.size, 0, none⟩) 1 [.int .u8 x]) := by rw [← hX1]; exact built_row w2 _ [.int .u8 x] _ (Below.refl _ _).drew
      have RC : Hid (RowV (cw X1) (cw X1).heap.size (some ⟨w2.heap.size, 0, none⟩) 1 [.int .u8 x]) := (RA.out.below (HCR.out X1).1).more (HCR.out X1).1.size
      have OA := Lib.hid (own_keep HO2.out BA.out)
      have OC := Lib.hid (own_keep HO2.out BC.out)
      have SA : Hid (g0 ≤ X1.heap.size) := Nat.le_trans hg2 BA.out.size
      have SC : Hid (g0 ≤ (cw X1).heap.size) := Nat.le_trans hg2 BC.out.size
      have XA := Lib.hid (HX2.out.below BA.out HX2.out.lt)
      have XC := Lib.hid (HX2.out.below BC.out HX2.out.lt)
      have KA := Lib.hid (HB2.out.trans (BA.out.mono hg2))
      have KC := Lib.hid (HB2.out.trans (BC.out.mono hg2))
      have RT : Hid (∀ W, (cw X1).grownBy W (Value.slice B m d).ownBlock → Row .u8 W W.heap.size (some ⟨X1.heap.size, 0, none⟩) S.size (bsOf S)) := fun W hg => far_row' (HCR.out X1).2.1 (fun ad h => by injection h with h; subst h; exact HNE.out _ (by show wr.heap.size ≤ X1.heap.size; have := HZ1.out; omega)) hg
      obtain ⟨Y1, hY1⟩ : ∃ Y1, cw w2.drew = Y1 := ⟨_, rfl⟩
      have BY : Hid (Below w2.heap.size w2 Y1) := by rw [← hY1]; exact (Below.refl _ _).drew.trans (HCR.out w2.drew).1
      have RY : Hid (Row .u8 Y1 Y1.heap.size (some ⟨w2.heap.size, 0, none⟩) S.size (bsOf S)) := by rw [← hY1]; exact (HCR.out w2.drew).2.1
      have ZY : Hid (w2.heap.size < Y1.heap.size) := by rw [← hY1]; exact (HCR.out w2.drew).2.2
      obtain ⟨X3, hX3⟩ : ∃ X3, Y1.alloc (.cells #[.int .u8 x] 5) = X3 := ⟨_, rfl⟩
      have BE : Hid (Below Y1.heap.size Y1 X3) := by rw [← hX3]; exact (Below.refl _ _).alloc (Nat.le_refl _) _
      have BD : Hid (Below w2.heap.size w2 X3) := BY.out.trans (BE.out.mono BY.out.size)
      have RD : Hid (RowV X3 X3.heap.size (some ⟨Y1.heap.size, 0, none⟩) 1 [.int .u8 x]) := by rw [← hX3]; exact built_row Y1 _ [.int .u8 x] _ (Below.refl _ _)
      have OD := Lib.hid (own_keep HO2.out BD.out)
      have SD : Hid (g0 ≤ X3.heap.size) := Nat.le_trans hg2 BD.out.size
      have XD := Lib.hid (HX2.out.below BD.out HX2.out.lt)
      have XY := Lib.hid (HX2.out.below BY.out HX2.out.lt)
      have KD := Lib.hid (HB2.out.trans (BD.out.mono hg2))
      have RU : Hid (∀ W, X3.grownBy W (Value.slice B m d).ownBlock → Row .u8 W W.heap.size (some ⟨w2.heap.size, 0, none⟩) S.size (bsOf S)) := fun W hg => far_row' ((RY.out.below BE.out).more BE.out.size) (fun ad h => by injection h with h; subst h; exact HNE.out _ (Nat.le_of_lt hlt2)) hg
      have hxy0 := XY.out.cell 0
      have hxy1 := XY.out.cell 1
      have hxd0 := XD.out.cell 0
      have hxd1 := XD.out.cell 1
      have hxa0 := XA.out.cell 0
      have hxa1 := XA.out.cell 1
      have hxc0 := XC.out.cell 0
      have hxc1 := XC.out.cell 1
      go_region_law (first
        | (refine step_append_at (.tmp 19) (.tmp 23) 30 g0 5 (.int .u8 0) 1 Try.underlying30 info5 rfl (.slice B m d) m ((zs ++ [(ol : Int)] ++ flatO (os.take k)).map (Value.int .u8)) 1 [.int .u8 x] (m + 1) ((zs ++ [(ol : Int)] ++ flatO (os.take k) ++ [x]).map (Value.int .u8)) rfl (by simp) (by simp [Value.oneCell']) (by omega) (by omega) ?_ ?_ ?_ ?_ ?_
           · exact ⟨rfl, rfl, (by first | rfl | (simp [eval_put_tmp, size_put]; done) | (simp [Act.eval]; done))⟩
           · first | exact OA.out | exact OC.out | exact OD.out
           · first
               | (refine ⟨some ⟨w2.heap.size, 0, none⟩, 1, ?_, ?_⟩
                  · first | rfl | (simp [eval_put_tmp, size_put]; done) | (simp [Act.eval]; done)
                  · first | exact RA.out | exact RC.out)
               | (refine ⟨some ⟨Y1.heap.size, 0, none⟩, 1, ?_, ?_⟩
                  · first | rfl | (simp [eval_put_tmp, size_put]; done) | (simp [Act.eval]; done)
                  · exact RD.out)
           · first | exact SA.out | exact SC.out | exact SD.out
           intro A6 c6 w6 hown hg hat
           obtain ⟨g6, cc6, hv6, hg6, hrow6⟩ := row_of_own hown (by omega)
           injection hv6 with hA6 _ hc6
           subst hA6 hc6
           have HT6 := Lib.hid (own_tight hown)
           have hz6 : g6 < w6.heap.size := by
             obtain ⟨b', o', e', hb', _⟩ := hrow6.2 (by omega)
             injection e' with e'
             injection e' with e'
             subst e'
             exact hb'
           have hX6 : WholeV w6 wr.heap.size 57 [.int .i64 x, .string S] := by first | exact (hg.block wr.heap.size XA.out.lt (HNE.out _ (Nat.le_refl _))).trans XA.out | exact (hg.block wr.heap.size XC.out.lt (HNE.out _ (Nat.le_refl _))).trans XC.out | exact (hg.block wr.heap.size XD.out.lt (HNE.out _ (Nat.le_refl _))).trans XD.out
           have hr0 := hX6.cell 0
           have hr1 := hX6.cell 1
           have HB6 : Hid (Below g0 w w6) := by first | exact below_append KA.out OA.out hg SA.out | exact below_append KC.out OC.out hg SC.out | exact below_append KD.out OD.out hg SD.out
           have HS6 : Hid (g0 ≤ w6.heap.size) := by first | exact Nat.le_trans SA.out hg.size | exact Nat.le_trans SC.out hg.size | exact Nat.le_trans SD.out hg.size
           have HG6 := Lib.hid hg6
           have HNG : Hid (X1.heap.size ≠ g6 ∨ True) := Or.inr trivial
           first
             | (have HRR := Lib.hid (RT.out _ hg)
                have HNG : Hid (X1.heap.size ≠ g6) := by
                  intro h
                  rcases hat with hat | hat
                  · exact HNE.out X1.heap.size (by have := HZ1.out; omega) (by rw [← hat, h]; rfl)
                  · have h9 : some g6 = some (cw X1).heap.size := hat
                    injection h9 with h9
                    have := (HCR.out X1).2.2
                    omega)
             | (have HRR := Lib.hid (RU.out _ hg)
                have HNG : Hid (w2.heap.size ≠ g6) := by
                  intro h
                  rcases hat with hat | hat
                  · exact HNE.out w2.heap.size (Nat.le_of_lt hlt2) (by rw [← hat, h]; rfl)
                  · have h9 : some g6 = some X3.heap.size := hat
                    injection h9 with h9
                    have := ZY.out
                    have := BE.out.size
                    omega)
             | skip
           clear hown hg hat hX6 hrow6 hg6)
        | (go_simp
           go_at_call 20
           refine (pputlist_any g6 (m + 1) c6 (zs ++ [(ol : Int)] ++ flatO (os.take k) ++ [x]) _ S.size _ (bsOf S) _ ?_ ?_ ?_ ?_ (by omega) (by omega)).mono ?_
           · first
               | exact HT6.out
               | exact own_keep HT6.out (HCR.out _).1
           · first
               | exact HRR.out
               | exact (HCR.out _).2.1
           · first
               | exact hz6
               | exact Nat.lt_of_lt_of_le hz6 (HCR.out _).1.size
           · intro ad h
             injection h with h
             subst h
             first
               | exact HNG.out
               | exact Nat.ne_of_gt hz6
           rintro e w8 ⟨C8, c8, rfl, ho8, hb8⟩
           have HO8 := Lib.hid (own_mono (b' := g0) ho8 HG6.out)
           have HB8 : Hid (Below g0 w w8) := by first | exact (HB6.out.trans ((HCR.out w6).1.mono HS6.out)).trans (hb8.mono HG6.out) | exact HB6.out.trans (hb8.mono HG6.out)
           have HS8 : Hid (g0 ≤ w8.heap.size) := by first | exact Nat.le_trans HS6.out (Nat.le_trans (HCR.out w6).1.size hb8.size) | exact Nat.le_trans HS6.out hb8.size
           clear ho8 hb8))
      all_goals
        go_wp2
        go_roundw
        case rel =>
          refine ⟨k + 1, m + 1 + 1 + S.size, C8, c8, by omega, by go_num, rfl, Lib.hid ?_, Lib.hid ?_, HB8, HS8⟩
          · have h1 := HM.out
            have h2 := HUS.out
            have h3 : (x, S).2.size = S.size := rfl
            omega
          · have h := HO8.out
            have e : zs ++ [(ol : Int)] ++ flatO (os.take (k + 1)) = zs ++ [(ol : Int)] ++ flatO (os.take k) ++ [x] ++ [(S.size : Int)] ++ bsOf S := by rw [HTK.out, flatO_snoc]; simp
            rw [e]
            exact h
        case measure => simp [intOf]; omega
    · obtain rfl : k = ol := by omega
      have hd : decide (k < k) = false := by simp
      have ht : os.take k = os := List.take_of_length_le (by rw [HLE.out]; omega)
      have hm := HM.out
      have ho := HOr.out
      rw [ht] at hm ho
      have HM2 := Lib.hid hm
      have HO2 := Lib.hid ho
      clear hm ho ht
      go_wp2
      go_ret
      exact ⟨m, B, d, rfl, HM2.out, HO2.out, HBr.out⟩

theorem flat_nil : flat ([] : List Int) = [] := rfl
theorem flat_all (ws : List Int) (m : Nat) (h : ws.length = m) : flat (ws.take m) = flat ws := by rw [List.take_of_length_le (by omega)]

set_option maxHeartbeats 1000000 in
theorem pput_any (A : Option Addr) (n c : Nat) (zs : List Int) (B : Option Addr) (m d : Nat) (ws : List Int) (w : World) (hr : Row .u8 w w.heap.size A n zs) (hw : Row .i64 w w.heap.size B m ws) (hx : Words ws) (hn : n ≤ 1000) (hm : m ≤ 1000) (hm0 : 0 < m) :
    Calls Try.prog 23 #[.slice A n c, .slice B m d] w fun e w' => ∃ g, e = .returned (.slice (some ⟨g, 0, none⟩) (n + 2 * m) (n + 2 * m)) ∧ Whole .u8 w' g 5 (zs ++ flat ws) ∧ w.heap.size ≤ g ∧ Below w.heap.size w w' := by
  have HR := Lib.hid hr
  have HW := Lib.hid hw
  have HX := Lib.hid hx
  have HN := Lib.hid hw.1
  clear hr hw hx
  go_enter Try.func23, Try.ntmps23
  go_wp2
  go_loopw [0, 6, 9] (fun b x i wr => ∃ (k : Nat) (C : Option Addr) (cc : Nat), k ≤ m ∧ i = .int .i64 (k : Int) ∧ b = .slice C (n + 2 * k) cc ∧ Hid (Row .u8 wr wr.heap.size C (n + 2 * k) (zs ++ flat (ws.take k))) ∧ Hid (k = 0 ∨ ∃ g, C = some ⟨g, 0, none⟩ ∧ cc = n + 2 * k ∧ Whole .u8 wr g 5 (zs ++ flat (ws.take k)) ∧ w.heap.size ≤ g) ∧ Hid (Below w.heap.size w wr)) (fun _ _ i _ => m - (intOf i).toNat)
  case atStart =>
    refine ⟨0, A, c, by omega, rfl, rfl, ?_, .inl rfl, Below.refl _ _⟩
    have h := HR.out
    have e : zs ++ flat (ws.take 0) = zs := by simp [flat]
    show Row .u8 w w.heap.size A n _
    rw [e]
    exact h
  case round =>
    obtain ⟨k, C, cc, hk, rfl, rfl, HK, HG, HB⟩ := hrel
    by_cases hlt : k < m
    · obtain ⟨b, off, rfl, hb, hcell⟩ := HW.out.2 (by omega)
      obtain ⟨z, hz⟩ : ∃ z, ws.getD k 0 = z := ⟨_, rfl⟩
      have hcl : wr.cell? ⟨b, off + k, none⟩ = some (.int .i64 z) := by rw [HB.out.cell hb, hcell k hlt, hz]
      have hbd := HX.out.at_ k
      change 0 ≤ ws.getD k 0 ∧ ws.getD k 0 ≤ 65535 at hbd
      rw [hz] at hbd
      have z0 := hbd.1
      have z1 := hbd.2
      have wz : IntKind.u16.wrap z = z := IntWalk.u16_in _ (by omega)
      have HT : Hid (zs ++ flat (ws.take k) ++ [z / 256, z % 256] = zs ++ flat (ws.take (k + 1))) := by
        rw [flat_take ws k (by rw [HN.out]; exact hlt), hz, List.append_assoc]; rfl
      have hi1 : (k : Int) < (m : Int) := by omega
      clear hcell hz hbd
      go_wp2_with (go_at_call 50; (with_reducible refine (wput_any C (n + 2 * k) cc _ z _ HK.out z0 z1 (by omega)).mono ?_); rintro e w2 ⟨rfl, ho2, hb2⟩; have HO2 := Lib.hid ho2; have HB2 := Lib.hid hb2; clear ho2 hb2)
      go_roundw
      case rel =>
        have ho := HO2.out
        rw [HT.out] at ho
        have hrow := ho.row
        have hlen : (zs ++ flat (ws.take (k + 1))).length = n + 2 * (k + 1) := by
          rw [List.length_append, flat_length, HR.out.1, List.length_take, HN.out]; omega
        rw [hlen] at hrow
        exact ⟨k + 1, some ⟨wr.heap.size, 0, none⟩, n + 2 * k + 2, by omega, by go_num, rfl, hrow, .inr ⟨_, rfl, by omega, ho, HB.out.size⟩, HB.out.trans (HB2.out.mono HB.out.size)⟩
      case measure => simp [intOf]; omega
    · obtain rfl : m = k := by omega
      go_wp2
      go_ret
      rcases HG.out with h0 | ⟨g, rfl, rfl, hwh, hge⟩
      · omega
      · rw [flat_all ws m HN.out] at hwh
        exact ⟨g, rfl, hwh, hge, HB.out⟩

theorem ppacked_any (B : Option Addr) (m d : Nat) (ws : List Int) (w : World) (hw : Row .u16 w w.heap.size B m ws) (hx : Words ws) (hm : m ≤ 1000) :
    Calls Try.prog 22 #[.slice B m d] w fun e w' => ∃ C cc, e = .returned (.slice C (2 * m) cc) ∧ Row .u8 w' w'.heap.size C (2 * m) (flat ws) ∧ (∀ ad : Addr, C = some ad → w.heap.size ≤ ad.block) ∧ Below w.heap.size w w' := by
  have HW := Lib.hid hw
  have HX := Lib.hid hx
  have HN := Lib.hid hw.1
  clear hw hx
  go_enter Try.func22, Try.ntmps22
  go_wp2
  go_loopw [3, 5, 8] (fun b x i wr => ∃ (k : Nat) (C : Option Addr) (cc : Nat), k ≤ m ∧ i = .int .i64 (k : Int) ∧ b = .slice C (2 * k) cc ∧ Hid (Row .u8 wr wr.heap.size C (2 * k) (flat (ws.take k))) ∧ Hid (∀ ad : Addr, C = some ad → w.heap.size ≤ ad.block) ∧ Hid (Below w.heap.size w wr)) (fun _ _ i _ => m - (intOf i).toNat)
  case atStart => exact ⟨0, none, 0, by omega, rfl, rfl, Row.nil _ _ _ _, (fun _ h => by cases h), Below.refl _ _⟩
  case round =>
    obtain ⟨k, C, cc, hk, rfl, rfl, HK, HF, HB⟩ := hrel
    by_cases hlt : k < m
    · obtain ⟨b, off, rfl, hb, hcell⟩ := HW.out.2 (by omega)
      obtain ⟨z, hz⟩ : ∃ z, ws.getD k 0 = z := ⟨_, rfl⟩
      have hcl : wr.cell? ⟨b, off + k, none⟩ = some (.int .u16 z) := by rw [HB.out.cell hb, hcell k hlt, hz]
      have hbd := HX.out.at_ k
      change 0 ≤ ws.getD k 0 ∧ ws.getD k 0 ≤ 65535 at hbd
      rw [hz] at hbd
      have z0 := hbd.1
      have z1 := hbd.2
      have HT : Hid (flat (ws.take k) ++ [z / 256, z % 256] = flat (ws.take (k + 1))) := by
        rw [flat_take ws k (by rw [HN.out]; exact hlt), hz]; rfl
      have hi1 : (k : Int) < (m : Int) := by omega
      clear hcell hz hbd
      go_wp2_with (go_at_call 50; (with_reducible refine (wput_any C (2 * k) cc _ z _ HK.out z0 z1 (by omega)).mono ?_); rintro e w2 ⟨rfl, ho2, hb2⟩; have HO2 := Lib.hid ho2; have HB2 := Lib.hid hb2; clear ho2 hb2)
      go_roundw
      case rel =>
        have ho := HO2.out
        rw [HT.out] at ho
        have hrow := ho.row
        have hlen : (flat (ws.take (k + 1))).length = 2 * (k + 1) := by
          rw [flat_length, List.length_take, HN.out]; omega
        rw [hlen] at hrow
        exact ⟨k + 1, some ⟨wr.heap.size, 0, none⟩, 2 * k + 2, by omega, by go_num, rfl, hrow, (fun ad h => by injection h with h; subst h; exact HB.out.size), HB.out.trans (HB2.out.mono HB.out.size)⟩
      case measure => simp [intOf]; omega
    · obtain rfl : m = k := by omega
      go_wp2
      go_ret
      have h := HK.out
      rw [flat_all ws m HN.out] at h
      exact ⟨C, cc, rfl, h, HF.out, HB.out⟩

set_option maxRecDepth 100000 in
set_option maxHeartbeats 1000000 in
theorem pbL_1 (bl : Nat) (bs : List Bool) (BA WA OA : Option Addr) (bc wc oc : Nat) (w : World) (hl : 1 ≤ bl ∧ bl ≤ 2000) (hr : BRow w w.heap.size BA bl bs) :
    Calls Try.prog 7 #[.agg #[.int .i64 1, .int .i64 0, .slice BA bl bc, .slice WA 0 wc, .int .i64 0, .int .i64 0, .int .u16 0, .int .u16 0, .int .u16 0, .int .i64 0, .int .i64 0, .bool false, .int .i64 0, .slice OA 0 oc]] w fun e w' => ∃ m C cc, e = .returned (.tuple #[.slice C m cc, .int .i64 0]) ∧ m = 2 + (nb bl) ∧ w'.ownsRow w.heap.size 5 1 (.slice C m cc) m (([1, ((nb bl : Nat) : Int)] ++ pk bs bl).map (Value.int .u8)) ∧ Below w.heap.size w w' := by
  have hq1 : nb bl ≤ 250 := by unfold nb; omega
  have HP : Hid (decide (tellP 1 0 bl 0 0 0 0 0 0 0 0 false.toNat 0 0 true.toNat) = true) := by
    refine decide_eq_true (tell_nought.2 ⟨rfl, by omega, ?_, ?_⟩)
    · have h1 : true.toNat = 1 := rfl
      unfold rangT
      omega
    · unfold restT
      have h1 : false.toNat = 0 := rfl
      omega
  have HW : Hid (WideT 0 0 0 0 0 0 0 0) := ⟨by omega, by omega, by omega, by omega, by omega, by omega, by omega, by omega, by omega, by omega, by omega, by omega, by omega, by omega, by omega, by omega⟩
  have HR := Lib.hid (fun W (hb : Below w.heap.size w W) => (hr.below hb).more hb.size)
  have HN := Lib.hid hr.1
  clear hr
  go_enter Try.func7, Try.ntmps7
  go_wp2_with fail
  refine (ptr_any 1 0 bl 0 0 0 0 0 0 0 0 false 0 0 BA WA OA bc wc oc _ true true HW.out (fits_nil _ _ _) HP.out).mono ?_
  rintro e w4 ⟨rfl, hb4⟩
  have HB4 : Hid (Below w.heap.size w w4) := ((Below.refl _ _).alloc (Nat.le_refl _) _).trans (hb4.mono (by simp))
  have hk4 : Below (w.heap.size + 1) (w.alloc (.cells #[.int .i64 1, .int .i64 0, .slice BA bl bc, .slice WA 0 wc, .int .i64 0, .int .i64 0, .int .u16 0, .int .u16 0, .int .u16 0, .int .i64 0, .int .i64 0, .bool false, .int .i64 0, .slice OA 0 oc] 28)) w4 := by
    rwa [show (w.alloc (.cells #[.int .i64 1, .int .i64 0, .slice BA bl bc, .slice WA 0 wc, .int .i64 0, .int .i64 0, .int .u16 0, .int .u16 0, .int .u16 0, .int .i64 0, .int .i64 0, .bool false, .int .i64 0, .slice OA 0 oc] 28)).heap.size = w.heap.size + 1 by simp] at hb4
  have hbx := box14 _ _ _ _ _ _ _ _ _ _ _ _ _ _ _ w w4 hk4
  have hz4 : w.heap.size < w4.heap.size := hbx.lt
  obtain ⟨hc0, hc1, hc2, hc3, hc4, hc5, hc6, hc7, hc8, hc9, hc10, hc11, hc12, hc13⟩ := cells14 hbx
  clear hb4 hk4 hbx
  have HW5 : Hid (WholeV (w4.alloc (.cells #[.int .u8 1] 5)) w4.heap.size 5 [.int .u8 1]) := heap_alloc_new w4 _
  have HB5 : Hid (Below w.heap.size w (w4.alloc (.cells #[.int .u8 1] 5))) := HB4.out.alloc HB4.out.size _
  have HO5 : Hid ((w4.alloc (.cells #[.int .u8 1] 5)).ownsRow w4.heap.size 5 1 (.slice (some ⟨w4.heap.size, 0, none⟩) 1 1) 1 ([(1 : Int)].map (Value.int .u8))) := own_of_whole HW5.out (Nat.le_refl _) rfl (by decide)
  go_wp2_with (first
    | (go_at_call 21
       refine (pack_any BA bl bc bs _ (HR.out _ HB5.out) (by omega)).mono ?_
       rintro e w7 ⟨rfl, hw7, hb7⟩
       have hr7 := hw7.row
       rw [pk_length, HN.out, show (w4.alloc (.cells #[.int .u8 1] 5)).heap.size = w4.heap.size + 1 by simp] at hr7
       have HR7 : Hid (Row .u8 w7 w7.heap.size _ (nb bl) (pk bs bl)) := hr7
       have HB7 := Lib.hid hb7
       have HF7 : Hid (∀ ad : Addr, (some ⟨w4.heap.size + 1, 0, none⟩ : Option Addr) = some ad → ad.block ≠ w4.heap.size) := by intro ad h; injection h with h; subst h; simp
       clear hw7 hb7 hr7)
    | (go_at_call 20
       (with_reducible refine (pputlist_any w4.heap.size 1 1 [1] _ (nb bl) _ (pk bs bl) _ ?_ ?_ ?_ ?_ (by omega) (by omega)).mono ?_)
       · exact own_keep HO5.out HB7.out
       · exact HR7.out
       · exact Nat.lt_of_lt_of_le HW5.out.lt HB7.out.size
       · exact HF7.out
       rintro e w8 ⟨C8, cc8, he8, ho8, hb8⟩
       obtain ⟨m8, hm8⟩ : ∃ m8, 1 + 1 + (nb bl) = m8 := ⟨_, rfl⟩
       rw [hm8] at he8 ho8
       subst he8
       have HM8 : Hid (m8 = 2 + (nb bl)) := Lib.hid (by omega)
       have HO8 := Lib.hid (own_mono (b' := w.heap.size) ho8 (Nat.le_of_lt hz4))
       have HB8 := Lib.hid ((HB4.out.trans (((Below.refl w4.heap.size w4).alloc (Nat.le_refl _) (.cells #[.int .u8 1] 5)).mono HB4.out.size)).trans ((HB7.out.mono HB5.out.size).trans (hb8.mono (Nat.le_of_lt hz4))))
       clear ho8 hb8 hm8))
  go_ret2
  exact ⟨m8, C8, cc8, rfl, HM8.out, HO8.out, HB8.out⟩

set_option maxRecDepth 100000 in
set_option maxHeartbeats 1000000 in
theorem pbL_2 (bl : Nat) (bs : List Bool) (BA WA OA : Option Addr) (bc wc oc : Nat) (w : World) (hl : 1 ≤ bl ∧ bl ≤ 2000) (hr : BRow w w.heap.size BA bl bs) :
    Calls Try.prog 7 #[.agg #[.int .i64 2, .int .i64 0, .slice BA bl bc, .slice WA 0 wc, .int .i64 0, .int .i64 0, .int .u16 0, .int .u16 0, .int .u16 0, .int .i64 0, .int .i64 0, .bool false, .int .i64 0, .slice OA 0 oc]] w fun e w' => ∃ m C cc, e = .returned (.tuple #[.slice C m cc, .int .i64 0]) ∧ m = 2 + (nb bl) ∧ w'.ownsRow w.heap.size 5 1 (.slice C m cc) m (([2, ((nb bl : Nat) : Int)] ++ pk bs bl).map (Value.int .u8)) ∧ Below w.heap.size w w' := by
  have hq1 : nb bl ≤ 250 := by unfold nb; omega
  have HP : Hid (decide (tellP 2 0 bl 0 0 0 0 0 0 0 0 false.toNat 0 0 true.toNat) = true) := by
    refine decide_eq_true (tell_nought.2 ⟨rfl, by omega, ?_, ?_⟩)
    · have h1 : true.toNat = 1 := rfl
      unfold rangT
      omega
    · unfold restT
      have h1 : false.toNat = 0 := rfl
      omega
  have HW : Hid (WideT 0 0 0 0 0 0 0 0) := ⟨by omega, by omega, by omega, by omega, by omega, by omega, by omega, by omega, by omega, by omega, by omega, by omega, by omega, by omega, by omega, by omega⟩
  have HR := Lib.hid (fun W (hb : Below w.heap.size w W) => (hr.below hb).more hb.size)
  have HN := Lib.hid hr.1
  clear hr
  go_enter Try.func7, Try.ntmps7
  go_wp2_with fail
  refine (ptr_any 2 0 bl 0 0 0 0 0 0 0 0 false 0 0 BA WA OA bc wc oc _ true true HW.out (fits_nil _ _ _) HP.out).mono ?_
  rintro e w4 ⟨rfl, hb4⟩
  have HB4 : Hid (Below w.heap.size w w4) := ((Below.refl _ _).alloc (Nat.le_refl _) _).trans (hb4.mono (by simp))
  have hk4 : Below (w.heap.size + 1) (w.alloc (.cells #[.int .i64 2, .int .i64 0, .slice BA bl bc, .slice WA 0 wc, .int .i64 0, .int .i64 0, .int .u16 0, .int .u16 0, .int .u16 0, .int .i64 0, .int .i64 0, .bool false, .int .i64 0, .slice OA 0 oc] 28)) w4 := by
    rwa [show (w.alloc (.cells #[.int .i64 2, .int .i64 0, .slice BA bl bc, .slice WA 0 wc, .int .i64 0, .int .i64 0, .int .u16 0, .int .u16 0, .int .u16 0, .int .i64 0, .int .i64 0, .bool false, .int .i64 0, .slice OA 0 oc] 28)).heap.size = w.heap.size + 1 by simp] at hb4
  have hbx := box14 _ _ _ _ _ _ _ _ _ _ _ _ _ _ _ w w4 hk4
  have hz4 : w.heap.size < w4.heap.size := hbx.lt
  obtain ⟨hc0, hc1, hc2, hc3, hc4, hc5, hc6, hc7, hc8, hc9, hc10, hc11, hc12, hc13⟩ := cells14 hbx
  clear hb4 hk4 hbx
  have HW5 : Hid (WholeV (w4.alloc (.cells #[.int .u8 2] 5)) w4.heap.size 5 [.int .u8 2]) := heap_alloc_new w4 _
  have HB5 : Hid (Below w.heap.size w (w4.alloc (.cells #[.int .u8 2] 5))) := HB4.out.alloc HB4.out.size _
  have HO5 : Hid ((w4.alloc (.cells #[.int .u8 2] 5)).ownsRow w4.heap.size 5 1 (.slice (some ⟨w4.heap.size, 0, none⟩) 1 1) 1 ([(2 : Int)].map (Value.int .u8))) := own_of_whole HW5.out (Nat.le_refl _) rfl (by decide)
  go_wp2_with (first
    | (go_at_call 21
       refine (pack_any BA bl bc bs _ (HR.out _ HB5.out) (by omega)).mono ?_
       rintro e w7 ⟨rfl, hw7, hb7⟩
       have hr7 := hw7.row
       rw [pk_length, HN.out, show (w4.alloc (.cells #[.int .u8 2] 5)).heap.size = w4.heap.size + 1 by simp] at hr7
       have HR7 : Hid (Row .u8 w7 w7.heap.size _ (nb bl) (pk bs bl)) := hr7
       have HB7 := Lib.hid hb7
       have HF7 : Hid (∀ ad : Addr, (some ⟨w4.heap.size + 1, 0, none⟩ : Option Addr) = some ad → ad.block ≠ w4.heap.size) := by intro ad h; injection h with h; subst h; simp
       clear hw7 hb7 hr7)
    | (go_at_call 20
       (with_reducible refine (pputlist_any w4.heap.size 1 1 [2] _ (nb bl) _ (pk bs bl) _ ?_ ?_ ?_ ?_ (by omega) (by omega)).mono ?_)
       · exact own_keep HO5.out HB7.out
       · exact HR7.out
       · exact Nat.lt_of_lt_of_le HW5.out.lt HB7.out.size
       · exact HF7.out
       rintro e w8 ⟨C8, cc8, he8, ho8, hb8⟩
       obtain ⟨m8, hm8⟩ : ∃ m8, 1 + 1 + (nb bl) = m8 := ⟨_, rfl⟩
       rw [hm8] at he8 ho8
       subst he8
       have HM8 : Hid (m8 = 2 + (nb bl)) := Lib.hid (by omega)
       have HO8 := Lib.hid (own_mono (b' := w.heap.size) ho8 (Nat.le_of_lt hz4))
       have HB8 := Lib.hid ((HB4.out.trans (((Below.refl w4.heap.size w4).alloc (Nat.le_refl _) (.cells #[.int .u8 2] 5)).mono HB4.out.size)).trans ((HB7.out.mono HB5.out.size).trans (hb8.mono (Nat.le_of_lt hz4))))
       clear ho8 hb8 hm8))
  go_ret2
  exact ⟨m8, C8, cc8, rfl, HM8.out, HO8.out, HB8.out⟩

set_option maxRecDepth 100000 in
set_option maxHeartbeats 1000000 in
theorem pbL_3 (wl : Nat) (ws : List Int) (BA WA OA : Option Addr) (bc wc oc : Nat) (w : World) (hl : 1 ≤ wl ∧ wl ≤ 125) (hr : Row .u16 w w.heap.size WA wl ws) (hx : Words ws) :
    Calls Try.prog 7 #[.agg #[.int .i64 3, .int .i64 0, .slice BA 0 bc, .slice WA wl wc, .int .i64 0, .int .i64 0, .int .u16 0, .int .u16 0, .int .u16 0, .int .i64 0, .int .i64 0, .bool false, .int .i64 0, .slice OA 0 oc]] w fun e w' => ∃ m C cc, e = .returned (.tuple #[.slice C m cc, .int .i64 0]) ∧ m = 2 + (2 * wl) ∧ w'.ownsRow w.heap.size 5 1 (.slice C m cc) m (([3, ((2 * wl : Nat) : Int)] ++ flat ws).map (Value.int .u8)) ∧ Below w.heap.size w w' := by
  have hq1 : 2 * wl ≤ 250 := by omega
  have HP : Hid (decide (tellP 3 0 0 wl 0 0 0 0 0 0 0 false.toNat 0 0 true.toNat) = true) := by
    refine decide_eq_true (tell_nought.2 ⟨rfl, by omega, ?_, ?_⟩)
    · have h1 : true.toNat = 1 := rfl
      unfold rangT
      omega
    · unfold restT
      have h1 : false.toNat = 0 := rfl
      omega
  have HW : Hid (WideT 0 0 0 0 0 0 0 0) := ⟨by omega, by omega, by omega, by omega, by omega, by omega, by omega, by omega, by omega, by omega, by omega, by omega, by omega, by omega, by omega, by omega⟩
  have HR := Lib.hid (fun W (hb : Below w.heap.size w W) => (hr.below hb).more hb.size)
  have HX := Lib.hid hx
  clear hx
  have HN := Lib.hid hr.1
  clear hr
  go_enter Try.func7, Try.ntmps7
  go_wp2_with fail
  refine (ptr_any 3 0 0 wl 0 0 0 0 0 0 0 false 0 0 BA WA OA bc wc oc _ true true HW.out (fits_nil _ _ _) HP.out).mono ?_
  rintro e w4 ⟨rfl, hb4⟩
  have HB4 : Hid (Below w.heap.size w w4) := ((Below.refl _ _).alloc (Nat.le_refl _) _).trans (hb4.mono (by simp))
  have hk4 : Below (w.heap.size + 1) (w.alloc (.cells #[.int .i64 3, .int .i64 0, .slice BA 0 bc, .slice WA wl wc, .int .i64 0, .int .i64 0, .int .u16 0, .int .u16 0, .int .u16 0, .int .i64 0, .int .i64 0, .bool false, .int .i64 0, .slice OA 0 oc] 28)) w4 := by
    rwa [show (w.alloc (.cells #[.int .i64 3, .int .i64 0, .slice BA 0 bc, .slice WA wl wc, .int .i64 0, .int .i64 0, .int .u16 0, .int .u16 0, .int .u16 0, .int .i64 0, .int .i64 0, .bool false, .int .i64 0, .slice OA 0 oc] 28)).heap.size = w.heap.size + 1 by simp] at hb4
  have hbx := box14 _ _ _ _ _ _ _ _ _ _ _ _ _ _ _ w w4 hk4
  have hz4 : w.heap.size < w4.heap.size := hbx.lt
  obtain ⟨hc0, hc1, hc2, hc3, hc4, hc5, hc6, hc7, hc8, hc9, hc10, hc11, hc12, hc13⟩ := cells14 hbx
  clear hb4 hk4 hbx
  have HW5 : Hid (WholeV (w4.alloc (.cells #[.int .u8 3] 5)) w4.heap.size 5 [.int .u8 3]) := heap_alloc_new w4 _
  have HB5 : Hid (Below w.heap.size w (w4.alloc (.cells #[.int .u8 3] 5))) := HB4.out.alloc HB4.out.size _
  have HO5 : Hid ((w4.alloc (.cells #[.int .u8 3] 5)).ownsRow w4.heap.size 5 1 (.slice (some ⟨w4.heap.size, 0, none⟩) 1 1) 1 ([(3 : Int)].map (Value.int .u8))) := own_of_whole HW5.out (Nat.le_refl _) rfl (by decide)
  go_wp2_with (first
    | (go_at_call 22
       refine (ppacked_any WA wl wc ws _ (HR.out _ HB5.out) HX.out (by omega)).mono ?_
       rintro e w7 ⟨C7, cc7, rfl, hr7, hf7, hb7⟩
       have HR7 := Lib.hid hr7
       have HB7 := Lib.hid hb7
       have HF7 : Hid (∀ ad : Addr, C7 = some ad → ad.block ≠ w4.heap.size) := by intro ad h; have := hf7 ad h; simp at this; omega
       clear hr7 hf7 hb7)
    | (go_at_call 20
       (with_reducible refine (pputlist_any w4.heap.size 1 1 [3] _ (2 * wl) _ (flat ws) _ ?_ ?_ ?_ ?_ (by omega) (by omega)).mono ?_)
       · exact own_keep HO5.out HB7.out
       · exact HR7.out
       · exact Nat.lt_of_lt_of_le HW5.out.lt HB7.out.size
       · exact HF7.out
       rintro e w8 ⟨C8, cc8, he8, ho8, hb8⟩
       obtain ⟨m8, hm8⟩ : ∃ m8, 1 + 1 + (2 * wl) = m8 := ⟨_, rfl⟩
       rw [hm8] at he8 ho8
       subst he8
       have HM8 : Hid (m8 = 2 + (2 * wl)) := Lib.hid (by omega)
       have HO8 := Lib.hid (own_mono (b' := w.heap.size) ho8 (Nat.le_of_lt hz4))
       have HB8 := Lib.hid ((HB4.out.trans (((Below.refl w4.heap.size w4).alloc (Nat.le_refl _) (.cells #[.int .u8 3] 5)).mono HB4.out.size)).trans ((HB7.out.mono HB5.out.size).trans (hb8.mono (Nat.le_of_lt hz4))))
       clear ho8 hb8 hm8))
  go_ret2
  exact ⟨m8, C8, cc8, rfl, HM8.out, HO8.out, HB8.out⟩

set_option maxRecDepth 100000 in
set_option maxHeartbeats 1000000 in
theorem pbL_4 (wl : Nat) (ws : List Int) (BA WA OA : Option Addr) (bc wc oc : Nat) (w : World) (hl : 1 ≤ wl ∧ wl ≤ 125) (hr : Row .u16 w w.heap.size WA wl ws) (hx : Words ws) :
    Calls Try.prog 7 #[.agg #[.int .i64 4, .int .i64 0, .slice BA 0 bc, .slice WA wl wc, .int .i64 0, .int .i64 0, .int .u16 0, .int .u16 0, .int .u16 0, .int .i64 0, .int .i64 0, .bool false, .int .i64 0, .slice OA 0 oc]] w fun e w' => ∃ m C cc, e = .returned (.tuple #[.slice C m cc, .int .i64 0]) ∧ m = 2 + (2 * wl) ∧ w'.ownsRow w.heap.size 5 1 (.slice C m cc) m (([4, ((2 * wl : Nat) : Int)] ++ flat ws).map (Value.int .u8)) ∧ Below w.heap.size w w' := by
  have hq1 : 2 * wl ≤ 250 := by omega
  have HP : Hid (decide (tellP 4 0 0 wl 0 0 0 0 0 0 0 false.toNat 0 0 true.toNat) = true) := by
    refine decide_eq_true (tell_nought.2 ⟨rfl, by omega, ?_, ?_⟩)
    · have h1 : true.toNat = 1 := rfl
      unfold rangT
      omega
    · unfold restT
      have h1 : false.toNat = 0 := rfl
      omega
  have HW : Hid (WideT 0 0 0 0 0 0 0 0) := ⟨by omega, by omega, by omega, by omega, by omega, by omega, by omega, by omega, by omega, by omega, by omega, by omega, by omega, by omega, by omega, by omega⟩
  have HR := Lib.hid (fun W (hb : Below w.heap.size w W) => (hr.below hb).more hb.size)
  have HX := Lib.hid hx
  clear hx
  have HN := Lib.hid hr.1
  clear hr
  go_enter Try.func7, Try.ntmps7
  go_wp2_with fail
  refine (ptr_any 4 0 0 wl 0 0 0 0 0 0 0 false 0 0 BA WA OA bc wc oc _ true true HW.out (fits_nil _ _ _) HP.out).mono ?_
  rintro e w4 ⟨rfl, hb4⟩
  have HB4 : Hid (Below w.heap.size w w4) := ((Below.refl _ _).alloc (Nat.le_refl _) _).trans (hb4.mono (by simp))
  have hk4 : Below (w.heap.size + 1) (w.alloc (.cells #[.int .i64 4, .int .i64 0, .slice BA 0 bc, .slice WA wl wc, .int .i64 0, .int .i64 0, .int .u16 0, .int .u16 0, .int .u16 0, .int .i64 0, .int .i64 0, .bool false, .int .i64 0, .slice OA 0 oc] 28)) w4 := by
    rwa [show (w.alloc (.cells #[.int .i64 4, .int .i64 0, .slice BA 0 bc, .slice WA wl wc, .int .i64 0, .int .i64 0, .int .u16 0, .int .u16 0, .int .u16 0, .int .i64 0, .int .i64 0, .bool false, .int .i64 0, .slice OA 0 oc] 28)).heap.size = w.heap.size + 1 by simp] at hb4
  have hbx := box14 _ _ _ _ _ _ _ _ _ _ _ _ _ _ _ w w4 hk4
  have hz4 : w.heap.size < w4.heap.size := hbx.lt
  obtain ⟨hc0, hc1, hc2, hc3, hc4, hc5, hc6, hc7, hc8, hc9, hc10, hc11, hc12, hc13⟩ := cells14 hbx
  clear hb4 hk4 hbx
  have HW5 : Hid (WholeV (w4.alloc (.cells #[.int .u8 4] 5)) w4.heap.size 5 [.int .u8 4]) := heap_alloc_new w4 _
  have HB5 : Hid (Below w.heap.size w (w4.alloc (.cells #[.int .u8 4] 5))) := HB4.out.alloc HB4.out.size _
  have HO5 : Hid ((w4.alloc (.cells #[.int .u8 4] 5)).ownsRow w4.heap.size 5 1 (.slice (some ⟨w4.heap.size, 0, none⟩) 1 1) 1 ([(4 : Int)].map (Value.int .u8))) := own_of_whole HW5.out (Nat.le_refl _) rfl (by decide)
  go_wp2_with (first
    | (go_at_call 22
       refine (ppacked_any WA wl wc ws _ (HR.out _ HB5.out) HX.out (by omega)).mono ?_
       rintro e w7 ⟨C7, cc7, rfl, hr7, hf7, hb7⟩
       have HR7 := Lib.hid hr7
       have HB7 := Lib.hid hb7
       have HF7 : Hid (∀ ad : Addr, C7 = some ad → ad.block ≠ w4.heap.size) := by intro ad h; have := hf7 ad h; simp at this; omega
       clear hr7 hf7 hb7)
    | (go_at_call 20
       (with_reducible refine (pputlist_any w4.heap.size 1 1 [4] _ (2 * wl) _ (flat ws) _ ?_ ?_ ?_ ?_ (by omega) (by omega)).mono ?_)
       · exact own_keep HO5.out HB7.out
       · exact HR7.out
       · exact Nat.lt_of_lt_of_le HW5.out.lt HB7.out.size
       · exact HF7.out
       rintro e w8 ⟨C8, cc8, he8, ho8, hb8⟩
       obtain ⟨m8, hm8⟩ : ∃ m8, 1 + 1 + (2 * wl) = m8 := ⟨_, rfl⟩
       rw [hm8] at he8 ho8
       subst he8
       have HM8 : Hid (m8 = 2 + (2 * wl)) := Lib.hid (by omega)
       have HO8 := Lib.hid (own_mono (b' := w.heap.size) ho8 (Nat.le_of_lt hz4))
       have HB8 := Lib.hid ((HB4.out.trans (((Below.refl w4.heap.size w4).alloc (Nat.le_refl _) (.cells #[.int .u8 4] 5)).mono HB4.out.size)).trans ((HB7.out.mono HB5.out.size).trans (hb8.mono (Nat.le_of_lt hz4))))
       clear ho8 hb8 hm8))
  go_ret2
  exact ⟨m8, C8, cc8, rfl, HM8.out, HO8.out, HB8.out⟩

set_option maxRecDepth 100000 in
set_option maxHeartbeats 1000000 in
theorem pbL_23 (wl : Nat) (ws : List Int) (BA WA OA : Option Addr) (bc wc oc : Nat) (w : World) (hl : 1 ≤ wl ∧ wl ≤ 125) (hr : Row .u16 w w.heap.size WA wl ws) (hx : Words ws) :
    Calls Try.prog 7 #[.agg #[.int .i64 23, .int .i64 0, .slice BA 0 bc, .slice WA wl wc, .int .i64 0, .int .i64 0, .int .u16 0, .int .u16 0, .int .u16 0, .int .i64 0, .int .i64 0, .bool false, .int .i64 0, .slice OA 0 oc]] w fun e w' => ∃ m C cc, e = .returned (.tuple #[.slice C m cc, .int .i64 0]) ∧ m = 2 + (2 * wl) ∧ w'.ownsRow w.heap.size 5 1 (.slice C m cc) m (([23, ((2 * wl : Nat) : Int)] ++ flat ws).map (Value.int .u8)) ∧ Below w.heap.size w w' := by
  have hq1 : 2 * wl ≤ 250 := by omega
  have HP : Hid (decide (tellP 23 0 0 wl 0 0 0 0 0 0 0 false.toNat 0 0 true.toNat) = true) := by
    refine decide_eq_true (tell_nought.2 ⟨rfl, by omega, ?_, ?_⟩)
    · have h1 : true.toNat = 1 := rfl
      unfold rangT
      omega
    · unfold restT
      have h1 : false.toNat = 0 := rfl
      omega
  have HW : Hid (WideT 0 0 0 0 0 0 0 0) := ⟨by omega, by omega, by omega, by omega, by omega, by omega, by omega, by omega, by omega, by omega, by omega, by omega, by omega, by omega, by omega, by omega⟩
  have HR := Lib.hid (fun W (hb : Below w.heap.size w W) => (hr.below hb).more hb.size)
  have HX := Lib.hid hx
  clear hx
  have HN := Lib.hid hr.1
  clear hr
  go_enter Try.func7, Try.ntmps7
  go_wp2_with fail
  refine (ptr_any 23 0 0 wl 0 0 0 0 0 0 0 false 0 0 BA WA OA bc wc oc _ true true HW.out (fits_nil _ _ _) HP.out).mono ?_
  rintro e w4 ⟨rfl, hb4⟩
  have HB4 : Hid (Below w.heap.size w w4) := ((Below.refl _ _).alloc (Nat.le_refl _) _).trans (hb4.mono (by simp))
  have hk4 : Below (w.heap.size + 1) (w.alloc (.cells #[.int .i64 23, .int .i64 0, .slice BA 0 bc, .slice WA wl wc, .int .i64 0, .int .i64 0, .int .u16 0, .int .u16 0, .int .u16 0, .int .i64 0, .int .i64 0, .bool false, .int .i64 0, .slice OA 0 oc] 28)) w4 := by
    rwa [show (w.alloc (.cells #[.int .i64 23, .int .i64 0, .slice BA 0 bc, .slice WA wl wc, .int .i64 0, .int .i64 0, .int .u16 0, .int .u16 0, .int .u16 0, .int .i64 0, .int .i64 0, .bool false, .int .i64 0, .slice OA 0 oc] 28)).heap.size = w.heap.size + 1 by simp] at hb4
  have hbx := box14 _ _ _ _ _ _ _ _ _ _ _ _ _ _ _ w w4 hk4
  have hz4 : w.heap.size < w4.heap.size := hbx.lt
  obtain ⟨hc0, hc1, hc2, hc3, hc4, hc5, hc6, hc7, hc8, hc9, hc10, hc11, hc12, hc13⟩ := cells14 hbx
  clear hb4 hk4 hbx
  have HW5 : Hid (WholeV (w4.alloc (.cells #[.int .u8 23] 5)) w4.heap.size 5 [.int .u8 23]) := heap_alloc_new w4 _
  have HB5 : Hid (Below w.heap.size w (w4.alloc (.cells #[.int .u8 23] 5))) := HB4.out.alloc HB4.out.size _
  have HO5 : Hid ((w4.alloc (.cells #[.int .u8 23] 5)).ownsRow w4.heap.size 5 1 (.slice (some ⟨w4.heap.size, 0, none⟩) 1 1) 1 ([(23 : Int)].map (Value.int .u8))) := own_of_whole HW5.out (Nat.le_refl _) rfl (by decide)
  go_wp2_with (first
    | (go_at_call 22
       refine (ppacked_any WA wl wc ws _ (HR.out _ HB5.out) HX.out (by omega)).mono ?_
       rintro e w7 ⟨C7, cc7, rfl, hr7, hf7, hb7⟩
       have HR7 := Lib.hid hr7
       have HB7 := Lib.hid hb7
       have HF7 : Hid (∀ ad : Addr, C7 = some ad → ad.block ≠ w4.heap.size) := by intro ad h; have := hf7 ad h; simp at this; omega
       clear hr7 hf7 hb7)
    | (go_at_call 20
       (with_reducible refine (pputlist_any w4.heap.size 1 1 [23] _ (2 * wl) _ (flat ws) _ ?_ ?_ ?_ ?_ (by omega) (by omega)).mono ?_)
       · exact own_keep HO5.out HB7.out
       · exact HR7.out
       · exact Nat.lt_of_lt_of_le HW5.out.lt HB7.out.size
       · exact HF7.out
       rintro e w8 ⟨C8, cc8, he8, ho8, hb8⟩
       obtain ⟨m8, hm8⟩ : ∃ m8, 1 + 1 + (2 * wl) = m8 := ⟨_, rfl⟩
       rw [hm8] at he8 ho8
       subst he8
       have HM8 : Hid (m8 = 2 + (2 * wl)) := Lib.hid (by omega)
       have HO8 := Lib.hid (own_mono (b' := w.heap.size) ho8 (Nat.le_of_lt hz4))
       have HB8 := Lib.hid ((HB4.out.trans (((Below.refl w4.heap.size w4).alloc (Nat.le_refl _) (.cells #[.int .u8 23] 5)).mono HB4.out.size)).trans ((HB7.out.mono HB5.out.size).trans (hb8.mono (Nat.le_of_lt hz4))))
       clear ho8 hb8 hm8))
  go_ret2
  exact ⟨m8, C8, cc8, rfl, HM8.out, HO8.out, HB8.out⟩





theorem pputI (A : Option Addr) (n c : Nat) (zs : List Int) (B : Option Addr) (m d : Nat) (ws : List Int) (w : World) (l : Nat) (ys : List Int) (hl : n + 2 * m = l) (hy : zs ++ flat ws = ys) (hr : Row .u8 w w.heap.size A n zs) (hw : Row .i64 w w.heap.size B m ws) (hx : Words ws) (hn : n ≤ 1000) (hm : m ≤ 1000) (hm0 : 0 < m) :
    Calls Try.prog 23 #[.slice A n c, .slice B m d] w fun e w' => ∃ g, e = .returned (.slice (some ⟨g, 0, none⟩) l l) ∧ Whole .u8 w' g 5 ys ∧ w.heap.size ≤ g ∧ Below w.heap.size w w' := by
  subst hl hy
  exact pput_any A n c zs B m d ws w hr hw hx hn hm hm0
theorem pbytes_of {P : Program} {f : FuncId} {a : Array Value} {w : World} {ys zs : List Int} {n : Nat} (h : Calls P f a w fun e w' => ∃ C cap, e = .returned (.tuple #[.slice C n cap, .int .i64 0]) ∧ w'.ownsRow w.heap.size 5 1 (.slice C n cap) n (ys.map (Value.int .u8)) ∧ Below w.heap.size w w') (hl : ys = zs) (hn : zs.length = n) :
    Calls P f a w fun e w' => ∃ C cap, e = .returned (.tuple #[.slice C zs.length cap, .int .i64 0]) ∧ w'.ownsRow w.heap.size 5 1 (.slice C zs.length cap) zs.length (zs.map (Value.int .u8)) ∧ Below w.heap.size w w' := by
  subst hl hn
  exact h
theorem own_cap {w : World} {base : Nat} {e : TypeId} {A : Option Addr} {n c : Nat} {xs : List Value} (h : w.ownsRow base e 1 (.slice A n c) n xs) : n ≤ c := by
  rcases h.2 with ⟨hv, h0⟩ | ⟨g', cap, cur, hv, _, _, hnc, _⟩
  · omega
  · injection hv with _ _ h3
    omega

set_option maxRecDepth 100000 in
set_option maxHeartbeats 1000000 in
theorem pbG_5 (at_ n v an orr : Int) (BA WA OA : Option Addr) (bc wc oc : Nat) (w : World) (hw : WideT at_ n v an orr 0 0 0) (h : tellP 5 0 0 0 at_ n v an orr 0 0 0 0 0 1) :
    Calls Try.prog 7 #[.agg #[.int .i64 5, .int .i64 0, .slice BA 0 bc, .slice WA 0 wc, .int .i64 at_, .int .i64 n, .int .u16 v, .int .u16 an, .int .u16 orr, .int .i64 0, .int .i64 0, .bool false, .int .i64 0, .slice OA 0 oc]] w fun e w' => ∃ g, e = .returned (.tuple #[.slice (some ⟨g, 0, none⟩) 5 5, .int .i64 0]) ∧ Whole .u8 w' g 5 [5, at_ / 256, at_ % 256, (v * 65280) / 256, (v * 65280) % 256] ∧ w.heap.size ≤ g ∧ Below w.heap.size w w' := by
  have hq := tell_nought.1 h
  obtain ⟨_, ⟨a0, a1⟩, hra, hre⟩ := hq
  unfold rangT at hra
  unfold restT at hre
  have hm2 : kMostW 15 = 1968 := rfl
  have hm3 : kMostW 16 = 123 := rfl
  have v0 := hw.v0
  have v1 : v ≤ 1 := by omega
  have d0 := hw.d0
  have d1 := hw.d1
  have o0 := hw.o0
  have o1 := hw.o1
  clear hra hre hm2 hm3
  have HWo : Hid (Words [at_, v * 65280]) := by intro x hx; simp only [List.mem_cons, List.not_mem_nil, or_false] at hx; rcases hx with h | h <;> omega
  have HP := Lib.hid (decide_eq_true h)
  have HW := Lib.hid hw
  clear h hw
  go_enter Try.func7, Try.ntmps7
  go_wp2_with fail
  refine (ptr_any 5 0 0 0 at_ n v an orr 0 0 false 0 0 BA WA OA bc wc oc _ true true HW.out (fits_nil _ _ _) HP.out).mono ?_
  rintro e w4 ⟨rfl, hb4⟩
  have HB4 : Hid (Below w.heap.size w w4) := ((Below.refl _ _).alloc (Nat.le_refl _) _).trans (hb4.mono (by simp))
  have hk4 : Below (w.heap.size + 1) (w.alloc (.cells #[.int .i64 5, .int .i64 0, .slice BA 0 bc, .slice WA 0 wc, .int .i64 at_, .int .i64 n, .int .u16 v, .int .u16 an, .int .u16 orr, .int .i64 0, .int .i64 0, .bool false, .int .i64 0, .slice OA 0 oc] 28)) w4 := by
    rwa [show (w.alloc (.cells #[.int .i64 5, .int .i64 0, .slice BA 0 bc, .slice WA 0 wc, .int .i64 at_, .int .i64 n, .int .u16 v, .int .u16 an, .int .u16 orr, .int .i64 0, .int .i64 0, .bool false, .int .i64 0, .slice OA 0 oc] 28)).heap.size = w.heap.size + 1 by simp] at hb4
  have hbx := box14 _ _ _ _ _ _ _ _ _ _ _ _ _ _ _ w w4 hk4
  have hz4 : w.heap.size < w4.heap.size := hbx.lt
  obtain ⟨hc0, hc1, hc2, hc3, hc4, hc5, hc6, hc7, hc8, hc9, hc10, hc11, hc12, hc13⟩ := cells14 hbx
  have hf6 := hbx.frozen 6
  clear hb4 hk4 hbx
  go_wp2_with fail
  obtain ⟨X0, hX0⟩ : ∃ X0, w4.setCell ⟨w.heap.size, 6, none⟩ (.int .u16 (v * 65280)) = X0 := ⟨_, rfl⟩
  have hs : w4.heap.size = X0.heap.size := by rw [← hX0]; simp
  have HBX : Hid (Below w.heap.size w X0) := by rw [← hX0]; exact HB4.out.setCell (p := ⟨w.heap.size, 6, none⟩) (Nat.le_refl _) _
  rw [hX0, hs]
  clear hX0
  have HRa : Hid (Row .u8 ((X0.alloc (.cells #[.int .u8 5] 5)).alloc (.cells #[.int .i64 at_, .int .i64 (v * 65280)] 3)) ((X0.alloc (.cells #[.int .u8 5] 5)).alloc (.cells #[.int .i64 at_, .int .i64 (v * 65280)] 3)).heap.size (some ⟨X0.heap.size, 0, none⟩) 1 [5]) := built_ints .u8 X0 _ [5] 5 ((Below.refl _ _).alloc (Nat.le_refl _) _)
  have HRb : Hid (Row .i64 ((X0.alloc (.cells #[.int .u8 5] 5)).alloc (.cells #[.int .i64 at_, .int .i64 (v * 65280)] 3)) ((X0.alloc (.cells #[.int .u8 5] 5)).alloc (.cells #[.int .i64 at_, .int .i64 (v * 65280)] 3)).heap.size (some ⟨X0.heap.size + 1, 0, none⟩) 2 [at_, v * 65280]) := by
    have h := built_ints .i64 (X0.alloc (.cells #[.int .u8 5] 5)) _ [at_, v * 65280] 3 (Below.refl _ _)
    rwa [show (X0.alloc (.cells #[.int .u8 5] 5)).heap.size = X0.heap.size + 1 by simp] at h
  have HBe : Hid (Below w.heap.size w ((X0.alloc (.cells #[.int .u8 5] 5)).alloc (.cells #[.int .i64 at_, .int .i64 (v * 65280)] 3))) := (HBX.out.alloc HBX.out.size _).alloc (by have := HBX.out.size; simp; omega) _
  refine (pputI (some ⟨X0.heap.size, 0, none⟩) 1 1 [5] (some ⟨X0.heap.size + 1, 0, none⟩) 2 2 [at_, v * 65280] _ 5 [5, at_ / 256, at_ % 256, (v * 65280) / 256, (v * 65280) % 256] rfl rfl HRa.out HRb.out HWo.out (by omega) (by omega) (by omega)).mono ?_
  rintro e w7 ⟨g7, rfl, hw7, hg7, hb7⟩
  have HW7 := Lib.hid hw7
  have HB7 := Lib.hid (HBe.out.trans (hb7.mono HBe.out.size))
  have HG7 : Hid (w.heap.size ≤ g7) := Nat.le_trans HBe.out.size hg7
  clear hw7 hg7 hb7
  go_wp2_with fail
  go_ret2
  exact ⟨g7, rfl, HW7.out, HG7.out, HB7.out⟩

set_option maxRecDepth 100000 in
set_option maxHeartbeats 1000000 in
theorem pbG_6 (at_ n v an orr : Int) (BA WA OA : Option Addr) (bc wc oc : Nat) (w : World) (hw : WideT at_ n v an orr 0 0 0) (h : tellP 6 0 0 0 at_ n v an orr 0 0 0 0 0 1) :
    Calls Try.prog 7 #[.agg #[.int .i64 6, .int .i64 0, .slice BA 0 bc, .slice WA 0 wc, .int .i64 at_, .int .i64 n, .int .u16 v, .int .u16 an, .int .u16 orr, .int .i64 0, .int .i64 0, .bool false, .int .i64 0, .slice OA 0 oc]] w fun e w' => ∃ g, e = .returned (.tuple #[.slice (some ⟨g, 0, none⟩) 5 5, .int .i64 0]) ∧ Whole .u8 w' g 5 [6, at_ / 256, at_ % 256, v / 256, v % 256] ∧ w.heap.size ≤ g ∧ Below w.heap.size w w' := by
  have hq := tell_nought.1 h
  obtain ⟨_, ⟨a0, a1⟩, hra, hre⟩ := hq
  unfold rangT at hra
  unfold restT at hre
  have hm2 : kMostW 15 = 1968 := rfl
  have hm3 : kMostW 16 = 123 := rfl
  have v0 := hw.v0
  have v1 : v ≤ 65535 := hw.v1
  have d0 := hw.d0
  have d1 := hw.d1
  have o0 := hw.o0
  have o1 := hw.o1
  clear hra hre hm2 hm3
  have HWo : Hid (Words [at_, v]) := by intro x hx; simp only [List.mem_cons, List.not_mem_nil, or_false] at hx; rcases hx with h | h <;> omega
  have HP := Lib.hid (decide_eq_true h)
  have HW := Lib.hid hw
  clear h hw
  go_enter Try.func7, Try.ntmps7
  go_wp2_with fail
  refine (ptr_any 6 0 0 0 at_ n v an orr 0 0 false 0 0 BA WA OA bc wc oc _ true true HW.out (fits_nil _ _ _) HP.out).mono ?_
  rintro e w4 ⟨rfl, hb4⟩
  have HB4 : Hid (Below w.heap.size w w4) := ((Below.refl _ _).alloc (Nat.le_refl _) _).trans (hb4.mono (by simp))
  have hk4 : Below (w.heap.size + 1) (w.alloc (.cells #[.int .i64 6, .int .i64 0, .slice BA 0 bc, .slice WA 0 wc, .int .i64 at_, .int .i64 n, .int .u16 v, .int .u16 an, .int .u16 orr, .int .i64 0, .int .i64 0, .bool false, .int .i64 0, .slice OA 0 oc] 28)) w4 := by
    rwa [show (w.alloc (.cells #[.int .i64 6, .int .i64 0, .slice BA 0 bc, .slice WA 0 wc, .int .i64 at_, .int .i64 n, .int .u16 v, .int .u16 an, .int .u16 orr, .int .i64 0, .int .i64 0, .bool false, .int .i64 0, .slice OA 0 oc] 28)).heap.size = w.heap.size + 1 by simp] at hb4
  have hbx := box14 _ _ _ _ _ _ _ _ _ _ _ _ _ _ _ w w4 hk4
  have hz4 : w.heap.size < w4.heap.size := hbx.lt
  obtain ⟨hc0, hc1, hc2, hc3, hc4, hc5, hc6, hc7, hc8, hc9, hc10, hc11, hc12, hc13⟩ := cells14 hbx
  have hf6 := hbx.frozen 6
  clear hb4 hk4 hbx
  go_wp2_with fail
  have HBX := HB4
  have HRa : Hid (Row .u8 ((w4.alloc (.cells #[.int .u8 6] 5)).alloc (.cells #[.int .i64 at_, .int .i64 v] 3)) ((w4.alloc (.cells #[.int .u8 6] 5)).alloc (.cells #[.int .i64 at_, .int .i64 v] 3)).heap.size (some ⟨w4.heap.size, 0, none⟩) 1 [6]) := built_ints .u8 w4 _ [6] 5 ((Below.refl _ _).alloc (Nat.le_refl _) _)
  have HRb : Hid (Row .i64 ((w4.alloc (.cells #[.int .u8 6] 5)).alloc (.cells #[.int .i64 at_, .int .i64 v] 3)) ((w4.alloc (.cells #[.int .u8 6] 5)).alloc (.cells #[.int .i64 at_, .int .i64 v] 3)).heap.size (some ⟨w4.heap.size + 1, 0, none⟩) 2 [at_, v]) := by
    have h := built_ints .i64 (w4.alloc (.cells #[.int .u8 6] 5)) _ [at_, v] 3 (Below.refl _ _)
    rwa [show (w4.alloc (.cells #[.int .u8 6] 5)).heap.size = w4.heap.size + 1 by simp] at h
  have HBe : Hid (Below w.heap.size w ((w4.alloc (.cells #[.int .u8 6] 5)).alloc (.cells #[.int .i64 at_, .int .i64 v] 3))) := (HBX.out.alloc HBX.out.size _).alloc (by have := HBX.out.size; simp; omega) _
  refine (pputI (some ⟨w4.heap.size, 0, none⟩) 1 1 [6] (some ⟨w4.heap.size + 1, 0, none⟩) 2 2 [at_, v] _ 5 [6, at_ / 256, at_ % 256, v / 256, v % 256] rfl rfl HRa.out HRb.out HWo.out (by omega) (by omega) (by omega)).mono ?_
  rintro e w7 ⟨g7, rfl, hw7, hg7, hb7⟩
  have HW7 := Lib.hid hw7
  have HB7 := Lib.hid (HBe.out.trans (hb7.mono HBe.out.size))
  have HG7 : Hid (w.heap.size ≤ g7) := Nat.le_trans HBe.out.size hg7
  clear hw7 hg7 hb7
  go_wp2_with fail
  go_ret2
  exact ⟨g7, rfl, HW7.out, HG7.out, HB7.out⟩

set_option maxRecDepth 100000 in
set_option maxHeartbeats 1000000 in
theorem pbG_15 (at_ n v an orr : Int) (BA WA OA : Option Addr) (bc wc oc : Nat) (w : World) (hw : WideT at_ n v an orr 0 0 0) (h : tellP 15 0 0 0 at_ n v an orr 0 0 0 0 0 1) :
    Calls Try.prog 7 #[.agg #[.int .i64 15, .int .i64 0, .slice BA 0 bc, .slice WA 0 wc, .int .i64 at_, .int .i64 n, .int .u16 v, .int .u16 an, .int .u16 orr, .int .i64 0, .int .i64 0, .bool false, .int .i64 0, .slice OA 0 oc]] w fun e w' => ∃ g, e = .returned (.tuple #[.slice (some ⟨g, 0, none⟩) 5 5, .int .i64 0]) ∧ Whole .u8 w' g 5 [15, at_ / 256, at_ % 256, n / 256, n % 256] ∧ w.heap.size ≤ g ∧ Below w.heap.size w w' := by
  have hq := tell_nought.1 h
  obtain ⟨_, ⟨a0, a1⟩, hra, hre⟩ := hq
  unfold rangT at hra
  unfold restT at hre
  have hm2 : kMostW 15 = 1968 := rfl
  have hm3 : kMostW 16 = 123 := rfl
  have v0 := hw.v0
  have v1 : v ≤ 65535 := hw.v1
  have d0 := hw.d0
  have d1 := hw.d1
  have o0 := hw.o0
  have o1 := hw.o1
  have n0 : 1 ≤ n := by omega
  have n1 : n ≤ 1968 := by omega
  clear hra hre hm2 hm3
  have HWo : Hid (Words [at_, n]) := by intro x hx; simp only [List.mem_cons, List.not_mem_nil, or_false] at hx; rcases hx with h | h <;> omega
  have HP := Lib.hid (decide_eq_true h)
  have HW := Lib.hid hw
  clear h hw
  go_enter Try.func7, Try.ntmps7
  go_wp2_with fail
  refine (ptr_any 15 0 0 0 at_ n v an orr 0 0 false 0 0 BA WA OA bc wc oc _ true true HW.out (fits_nil _ _ _) HP.out).mono ?_
  rintro e w4 ⟨rfl, hb4⟩
  have HB4 : Hid (Below w.heap.size w w4) := ((Below.refl _ _).alloc (Nat.le_refl _) _).trans (hb4.mono (by simp))
  have hk4 : Below (w.heap.size + 1) (w.alloc (.cells #[.int .i64 15, .int .i64 0, .slice BA 0 bc, .slice WA 0 wc, .int .i64 at_, .int .i64 n, .int .u16 v, .int .u16 an, .int .u16 orr, .int .i64 0, .int .i64 0, .bool false, .int .i64 0, .slice OA 0 oc] 28)) w4 := by
    rwa [show (w.alloc (.cells #[.int .i64 15, .int .i64 0, .slice BA 0 bc, .slice WA 0 wc, .int .i64 at_, .int .i64 n, .int .u16 v, .int .u16 an, .int .u16 orr, .int .i64 0, .int .i64 0, .bool false, .int .i64 0, .slice OA 0 oc] 28)).heap.size = w.heap.size + 1 by simp] at hb4
  have hbx := box14 _ _ _ _ _ _ _ _ _ _ _ _ _ _ _ w w4 hk4
  have hz4 : w.heap.size < w4.heap.size := hbx.lt
  obtain ⟨hc0, hc1, hc2, hc3, hc4, hc5, hc6, hc7, hc8, hc9, hc10, hc11, hc12, hc13⟩ := cells14 hbx
  have hf6 := hbx.frozen 6
  clear hb4 hk4 hbx
  go_wp2_with fail
  have HBX := HB4
  have HRa : Hid (Row .u8 ((w4.alloc (.cells #[.int .u8 15] 5)).alloc (.cells #[.int .i64 at_, .int .i64 n] 3)) ((w4.alloc (.cells #[.int .u8 15] 5)).alloc (.cells #[.int .i64 at_, .int .i64 n] 3)).heap.size (some ⟨w4.heap.size, 0, none⟩) 1 [15]) := built_ints .u8 w4 _ [15] 5 ((Below.refl _ _).alloc (Nat.le_refl _) _)
  have HRb : Hid (Row .i64 ((w4.alloc (.cells #[.int .u8 15] 5)).alloc (.cells #[.int .i64 at_, .int .i64 n] 3)) ((w4.alloc (.cells #[.int .u8 15] 5)).alloc (.cells #[.int .i64 at_, .int .i64 n] 3)).heap.size (some ⟨w4.heap.size + 1, 0, none⟩) 2 [at_, n]) := by
    have h := built_ints .i64 (w4.alloc (.cells #[.int .u8 15] 5)) _ [at_, n] 3 (Below.refl _ _)
    rwa [show (w4.alloc (.cells #[.int .u8 15] 5)).heap.size = w4.heap.size + 1 by simp] at h
  have HBe : Hid (Below w.heap.size w ((w4.alloc (.cells #[.int .u8 15] 5)).alloc (.cells #[.int .i64 at_, .int .i64 n] 3))) := (HBX.out.alloc HBX.out.size _).alloc (by have := HBX.out.size; simp; omega) _
  refine (pputI (some ⟨w4.heap.size, 0, none⟩) 1 1 [15] (some ⟨w4.heap.size + 1, 0, none⟩) 2 2 [at_, n] _ 5 [15, at_ / 256, at_ % 256, n / 256, n % 256] rfl rfl HRa.out HRb.out HWo.out (by omega) (by omega) (by omega)).mono ?_
  rintro e w7 ⟨g7, rfl, hw7, hg7, hb7⟩
  have HW7 := Lib.hid hw7
  have HB7 := Lib.hid (HBe.out.trans (hb7.mono HBe.out.size))
  have HG7 : Hid (w.heap.size ≤ g7) := Nat.le_trans HBe.out.size hg7
  clear hw7 hg7 hb7
  go_wp2_with fail
  go_ret2
  exact ⟨g7, rfl, HW7.out, HG7.out, HB7.out⟩

set_option maxRecDepth 100000 in
set_option maxHeartbeats 1000000 in
theorem pbG_16 (at_ n v an orr : Int) (BA WA OA : Option Addr) (bc wc oc : Nat) (w : World) (hw : WideT at_ n v an orr 0 0 0) (h : tellP 16 0 0 0 at_ n v an orr 0 0 0 0 0 1) :
    Calls Try.prog 7 #[.agg #[.int .i64 16, .int .i64 0, .slice BA 0 bc, .slice WA 0 wc, .int .i64 at_, .int .i64 n, .int .u16 v, .int .u16 an, .int .u16 orr, .int .i64 0, .int .i64 0, .bool false, .int .i64 0, .slice OA 0 oc]] w fun e w' => ∃ g, e = .returned (.tuple #[.slice (some ⟨g, 0, none⟩) 5 5, .int .i64 0]) ∧ Whole .u8 w' g 5 [16, at_ / 256, at_ % 256, n / 256, n % 256] ∧ w.heap.size ≤ g ∧ Below w.heap.size w w' := by
  have hq := tell_nought.1 h
  obtain ⟨_, ⟨a0, a1⟩, hra, hre⟩ := hq
  unfold rangT at hra
  unfold restT at hre
  have hm2 : kMostW 15 = 1968 := rfl
  have hm3 : kMostW 16 = 123 := rfl
  have v0 := hw.v0
  have v1 : v ≤ 65535 := hw.v1
  have d0 := hw.d0
  have d1 := hw.d1
  have o0 := hw.o0
  have o1 := hw.o1
  have n0 : 1 ≤ n := by omega
  have n1 : n ≤ 1968 := by omega
  clear hra hre hm2 hm3
  have HWo : Hid (Words [at_, n]) := by intro x hx; simp only [List.mem_cons, List.not_mem_nil, or_false] at hx; rcases hx with h | h <;> omega
  have HP := Lib.hid (decide_eq_true h)
  have HW := Lib.hid hw
  clear h hw
  go_enter Try.func7, Try.ntmps7
  go_wp2_with fail
  refine (ptr_any 16 0 0 0 at_ n v an orr 0 0 false 0 0 BA WA OA bc wc oc _ true true HW.out (fits_nil _ _ _) HP.out).mono ?_
  rintro e w4 ⟨rfl, hb4⟩
  have HB4 : Hid (Below w.heap.size w w4) := ((Below.refl _ _).alloc (Nat.le_refl _) _).trans (hb4.mono (by simp))
  have hk4 : Below (w.heap.size + 1) (w.alloc (.cells #[.int .i64 16, .int .i64 0, .slice BA 0 bc, .slice WA 0 wc, .int .i64 at_, .int .i64 n, .int .u16 v, .int .u16 an, .int .u16 orr, .int .i64 0, .int .i64 0, .bool false, .int .i64 0, .slice OA 0 oc] 28)) w4 := by
    rwa [show (w.alloc (.cells #[.int .i64 16, .int .i64 0, .slice BA 0 bc, .slice WA 0 wc, .int .i64 at_, .int .i64 n, .int .u16 v, .int .u16 an, .int .u16 orr, .int .i64 0, .int .i64 0, .bool false, .int .i64 0, .slice OA 0 oc] 28)).heap.size = w.heap.size + 1 by simp] at hb4
  have hbx := box14 _ _ _ _ _ _ _ _ _ _ _ _ _ _ _ w w4 hk4
  have hz4 : w.heap.size < w4.heap.size := hbx.lt
  obtain ⟨hc0, hc1, hc2, hc3, hc4, hc5, hc6, hc7, hc8, hc9, hc10, hc11, hc12, hc13⟩ := cells14 hbx
  have hf6 := hbx.frozen 6
  clear hb4 hk4 hbx
  go_wp2_with fail
  have HBX := HB4
  have HRa : Hid (Row .u8 ((w4.alloc (.cells #[.int .u8 16] 5)).alloc (.cells #[.int .i64 at_, .int .i64 n] 3)) ((w4.alloc (.cells #[.int .u8 16] 5)).alloc (.cells #[.int .i64 at_, .int .i64 n] 3)).heap.size (some ⟨w4.heap.size, 0, none⟩) 1 [16]) := built_ints .u8 w4 _ [16] 5 ((Below.refl _ _).alloc (Nat.le_refl _) _)
  have HRb : Hid (Row .i64 ((w4.alloc (.cells #[.int .u8 16] 5)).alloc (.cells #[.int .i64 at_, .int .i64 n] 3)) ((w4.alloc (.cells #[.int .u8 16] 5)).alloc (.cells #[.int .i64 at_, .int .i64 n] 3)).heap.size (some ⟨w4.heap.size + 1, 0, none⟩) 2 [at_, n]) := by
    have h := built_ints .i64 (w4.alloc (.cells #[.int .u8 16] 5)) _ [at_, n] 3 (Below.refl _ _)
    rwa [show (w4.alloc (.cells #[.int .u8 16] 5)).heap.size = w4.heap.size + 1 by simp] at h
  have HBe : Hid (Below w.heap.size w ((w4.alloc (.cells #[.int .u8 16] 5)).alloc (.cells #[.int .i64 at_, .int .i64 n] 3))) := (HBX.out.alloc HBX.out.size _).alloc (by have := HBX.out.size; simp; omega) _
  refine (pputI (some ⟨w4.heap.size, 0, none⟩) 1 1 [16] (some ⟨w4.heap.size + 1, 0, none⟩) 2 2 [at_, n] _ 5 [16, at_ / 256, at_ % 256, n / 256, n % 256] rfl rfl HRa.out HRb.out HWo.out (by omega) (by omega) (by omega)).mono ?_
  rintro e w7 ⟨g7, rfl, hw7, hg7, hb7⟩
  have HW7 := Lib.hid hw7
  have HB7 := Lib.hid (HBe.out.trans (hb7.mono HBe.out.size))
  have HG7 : Hid (w.heap.size ≤ g7) := Nat.le_trans HBe.out.size hg7
  clear hw7 hg7 hb7
  go_wp2_with fail
  go_ret2
  exact ⟨g7, rfl, HW7.out, HG7.out, HB7.out⟩

set_option maxRecDepth 100000 in
set_option maxHeartbeats 1000000 in
theorem pbG_22 (at_ n v an orr : Int) (BA WA OA : Option Addr) (bc wc oc : Nat) (w : World) (hw : WideT at_ n v an orr 0 0 0) (h : tellP 22 0 0 0 at_ n v an orr 0 0 0 0 0 1) :
    Calls Try.prog 7 #[.agg #[.int .i64 22, .int .i64 0, .slice BA 0 bc, .slice WA 0 wc, .int .i64 at_, .int .i64 n, .int .u16 v, .int .u16 an, .int .u16 orr, .int .i64 0, .int .i64 0, .bool false, .int .i64 0, .slice OA 0 oc]] w fun e w' => ∃ g, e = .returned (.tuple #[.slice (some ⟨g, 0, none⟩) 7 7, .int .i64 0]) ∧ Whole .u8 w' g 5 [22, at_ / 256, at_ % 256, an / 256, an % 256, orr / 256, orr % 256] ∧ w.heap.size ≤ g ∧ Below w.heap.size w w' := by
  have hq := tell_nought.1 h
  obtain ⟨_, ⟨a0, a1⟩, hra, hre⟩ := hq
  unfold rangT at hra
  unfold restT at hre
  have hm2 : kMostW 15 = 1968 := rfl
  have hm3 : kMostW 16 = 123 := rfl
  have v0 := hw.v0
  have v1 : v ≤ 65535 := hw.v1
  have d0 := hw.d0
  have d1 := hw.d1
  have o0 := hw.o0
  have o1 := hw.o1
  clear hra hre hm2 hm3
  have HWo : Hid (Words [at_, an, orr]) := by intro x hx; simp only [List.mem_cons, List.not_mem_nil, or_false] at hx; rcases hx with h | h | h <;> omega
  have HP := Lib.hid (decide_eq_true h)
  have HW := Lib.hid hw
  clear h hw
  go_enter Try.func7, Try.ntmps7
  go_wp2_with fail
  refine (ptr_any 22 0 0 0 at_ n v an orr 0 0 false 0 0 BA WA OA bc wc oc _ true true HW.out (fits_nil _ _ _) HP.out).mono ?_
  rintro e w4 ⟨rfl, hb4⟩
  have HB4 : Hid (Below w.heap.size w w4) := ((Below.refl _ _).alloc (Nat.le_refl _) _).trans (hb4.mono (by simp))
  have hk4 : Below (w.heap.size + 1) (w.alloc (.cells #[.int .i64 22, .int .i64 0, .slice BA 0 bc, .slice WA 0 wc, .int .i64 at_, .int .i64 n, .int .u16 v, .int .u16 an, .int .u16 orr, .int .i64 0, .int .i64 0, .bool false, .int .i64 0, .slice OA 0 oc] 28)) w4 := by
    rwa [show (w.alloc (.cells #[.int .i64 22, .int .i64 0, .slice BA 0 bc, .slice WA 0 wc, .int .i64 at_, .int .i64 n, .int .u16 v, .int .u16 an, .int .u16 orr, .int .i64 0, .int .i64 0, .bool false, .int .i64 0, .slice OA 0 oc] 28)).heap.size = w.heap.size + 1 by simp] at hb4
  have hbx := box14 _ _ _ _ _ _ _ _ _ _ _ _ _ _ _ w w4 hk4
  have hz4 : w.heap.size < w4.heap.size := hbx.lt
  obtain ⟨hc0, hc1, hc2, hc3, hc4, hc5, hc6, hc7, hc8, hc9, hc10, hc11, hc12, hc13⟩ := cells14 hbx
  have hf6 := hbx.frozen 6
  clear hb4 hk4 hbx
  go_wp2_with fail
  have HBX := HB4
  have HRa : Hid (Row .u8 ((w4.alloc (.cells #[.int .u8 22] 5)).alloc (.cells #[.int .i64 at_, .int .i64 an, .int .i64 orr] 3)) ((w4.alloc (.cells #[.int .u8 22] 5)).alloc (.cells #[.int .i64 at_, .int .i64 an, .int .i64 orr] 3)).heap.size (some ⟨w4.heap.size, 0, none⟩) 1 [22]) := built_ints .u8 w4 _ [22] 5 ((Below.refl _ _).alloc (Nat.le_refl _) _)
  have HRb : Hid (Row .i64 ((w4.alloc (.cells #[.int .u8 22] 5)).alloc (.cells #[.int .i64 at_, .int .i64 an, .int .i64 orr] 3)) ((w4.alloc (.cells #[.int .u8 22] 5)).alloc (.cells #[.int .i64 at_, .int .i64 an, .int .i64 orr] 3)).heap.size (some ⟨w4.heap.size + 1, 0, none⟩) 3 [at_, an, orr]) := by
    have h := built_ints .i64 (w4.alloc (.cells #[.int .u8 22] 5)) _ [at_, an, orr] 3 (Below.refl _ _)
    rwa [show (w4.alloc (.cells #[.int .u8 22] 5)).heap.size = w4.heap.size + 1 by simp] at h
  have HBe : Hid (Below w.heap.size w ((w4.alloc (.cells #[.int .u8 22] 5)).alloc (.cells #[.int .i64 at_, .int .i64 an, .int .i64 orr] 3))) := (HBX.out.alloc HBX.out.size _).alloc (by have := HBX.out.size; simp; omega) _
  refine (pputI (some ⟨w4.heap.size, 0, none⟩) 1 1 [22] (some ⟨w4.heap.size + 1, 0, none⟩) 3 3 [at_, an, orr] _ 7 [22, at_ / 256, at_ % 256, an / 256, an % 256, orr / 256, orr % 256] rfl rfl HRa.out HRb.out HWo.out (by omega) (by omega) (by omega)).mono ?_
  rintro e w7 ⟨g7, rfl, hw7, hg7, hb7⟩
  have HW7 := Lib.hid hw7
  have HB7 := Lib.hid (HBe.out.trans (hb7.mono HBe.out.size))
  have HG7 : Hid (w.heap.size ≤ g7) := Nat.le_trans HBe.out.size hg7
  clear hw7 hg7 hb7
  go_wp2_with fail
  go_ret2
  exact ⟨g7, rfl, HW7.out, HG7.out, HB7.out⟩

theorem used_ge (os : List Ob) : os.length ≤ used os := by
  induction os with
  | nil => simp
  | cons o os ih => rw [used_cons, List.length_cons]; omega
theorem used_mem (os : List Ob) (o : Ob) (h : o ∈ os) : 2 + o.2.size ≤ used os := by
  induction os with
  | nil => cases h
  | cons x os ih =>
    rw [used_cons]
    rcases List.mem_cons.1 h with rfl | h
    · omega
    · have := ih h; omega

set_option maxRecDepth 100000 in
set_option maxHeartbeats 1000000 in
theorem pmore_any (mo : Bool) (mb : Int) (co le nx : Int) (BA WA OA : Option Addr) (bc wc ol oc : Nat) (w : World) (hm : (if mo then 255 else 0) = mb) :
    Calls Try.prog 25 #[.agg #[.int .i64 43, .int .i64 0, .slice BA 0 bc, .slice WA 0 wc, .int .i64 0, .int .i64 0, .int .u16 0, .int .u16 0, .int .u16 0, .int .i64 co, .int .i64 le, .bool mo, .int .i64 nx, .slice OA ol oc]] w fun e w' => e = .returned (.int .u8 mb) ∧ Below w.heap.size w w' := by
  cases mo
  · obtain rfl : (0 : Int) = mb := hm
    go_enter Try.func25, Try.ntmps25
    go_wp2
    go_ret
    exact ⟨rfl, (Below.refl _ _).alloc (Nat.le_refl _) _⟩
  · obtain rfl : (255 : Int) = mb := hm
    go_enter Try.func25, Try.ntmps25
    go_wp2
    go_ret
    exact ⟨rfl, (Below.refl _ _).alloc (Nat.le_refl _) _⟩

set_option maxRecDepth 100000 in
set_option maxHeartbeats 4000000 in
theorem pbT_43 (co le nx : Int) (mo : Bool) (mb : Int) (os : List Ob) (BA WA OA : Option Addr) (bc wc ol oc : Nat) (w : World) (hm : (if mo then 255 else 0) = mb) (hl : OL w w.heap.size OA ol os) (hf : fitP os) (hc : 1 ≤ co ∧ co ≤ 4) (hle : 0 ≤ le ∧ le ≤ 255) (hnx : 0 ≤ nx ∧ nx ≤ 255) :
    Calls Try.prog 7 #[.agg #[.int .i64 43, .int .i64 0, .slice BA 0 bc, .slice WA 0 wc, .int .i64 0, .int .i64 0, .int .u16 0, .int .u16 0, .int .u16 0, .int .i64 co, .int .i64 le, .bool mo, .int .i64 nx, .slice OA ol oc]] w fun e w' => ∃ m C cc, e = .returned (.tuple #[.slice C m cc, .int .i64 0]) ∧ m = 7 + used os ∧ w'.ownsRow w.heap.size 5 1 (.slice C m cc) m (([43, 14, co, le, mb, nx, (ol : Int)] ++ flatO os).map (Value.int .u8)) ∧ Below w.heap.size w w' := by
  have hus := hf.2
  have hlen := hl.len
  have hol : ol ≤ 255 := by have := used_ge os; omega
  have hidb := hf.1
  have hszb : ∀ o ∈ os, o.2.size ≤ 255 := fun o ho => by have := used_mem os o ho; omega
  have hfit := fits_any OA ol oc os w true hl (by omega) (fun o ho => by have := hszb o ho; omega) (decide_eq_true hf)
  have HW : Hid (WideT 0 0 0 0 0 co le nx) := ⟨by omega, by omega, by omega, by omega, by omega, by omega, by omega, by omega, by omega, by omega, by omega, by omega, by omega, by omega, by omega, by omega⟩
  have HP : Hid (decide (tellP 43 0 0 0 0 0 0 0 0 co le mo.toNat nx ol true.toNat) = true) := by
    refine decide_eq_true (tell_nought.2 ⟨rfl, by omega, ?_, ?_⟩)
    · have h1 : true.toNat = 1 := rfl
      unfold rangT
      omega
    · unfold restT; omega
  have CM := Lib.hid (fun W => pmore_any mo mb co le nx BA WA OA bc wc ol oc W hm)
  have hmb : 0 ≤ mb ∧ mb ≤ 255 := by cases mo <;> simp at hm <;> omega
  have wc1 : IntKind.u8.wrap co = co := IntWalk.u8_in _ (by omega)
  have wc2 : IntKind.u8.wrap le = le := IntWalk.u8_in _ (by omega)
  have wc3 : IntKind.u8.wrap nx = nx := IntWalk.u8_in _ (by omega)
  have HL := Lib.hid hl
  have HF := Lib.hid hfit
  have HID := Lib.hid hidb
  have HSS := Lib.hid hszb
  clear hl hf hfit hidb hszb hm
  go_enter Try.func7, Try.ntmps7
  go_wp2_with fail
  refine (ptr_any 43 0 0 0 0 0 0 0 0 co le mo nx ol BA WA OA bc wc oc _ true true HW.out (HF.out.on ((Below.refl _ _).alloc (Nat.le_refl _) _)) HP.out).mono ?_
  rintro e w4 ⟨rfl, hb4⟩
  have HB4 : Hid (Below w.heap.size w w4) := ((Below.refl _ _).alloc (Nat.le_refl _) _).trans (hb4.mono (by simp))
  have hk4 : Below (w.heap.size + 1) (w.alloc (.cells #[.int .i64 43, .int .i64 0, .slice BA 0 bc, .slice WA 0 wc, .int .i64 0, .int .i64 0, .int .u16 0, .int .u16 0, .int .u16 0, .int .i64 co, .int .i64 le, .bool mo, .int .i64 nx, .slice OA ol oc] 28)) w4 := by
    rwa [show (w.alloc (.cells #[.int .i64 43, .int .i64 0, .slice BA 0 bc, .slice WA 0 wc, .int .i64 0, .int .i64 0, .int .u16 0, .int .u16 0, .int .u16 0, .int .i64 co, .int .i64 le, .bool mo, .int .i64 nx, .slice OA ol oc] 28)).heap.size = w.heap.size + 1 by simp] at hb4
  have hbx := box14 _ _ _ _ _ _ _ _ _ _ _ _ _ _ _ w w4 hk4
  have hz4 : w.heap.size < w4.heap.size := hbx.lt
  have KS : Hid (∀ W, Below w4.heap.size w4 W → W.cell? ⟨w.heap.size, 0, none⟩ = some (.int .i64 43) ∧ W.cell? ⟨w.heap.size, 1, none⟩ = some (.int .i64 0) ∧ W.cell? ⟨w.heap.size, 2, none⟩ = some (.slice BA 0 bc) ∧ W.cell? ⟨w.heap.size, 3, none⟩ = some (.slice WA 0 wc) ∧ W.cell? ⟨w.heap.size, 4, none⟩ = some (.int .i64 0) ∧ W.cell? ⟨w.heap.size, 5, none⟩ = some (.int .i64 0) ∧ W.cell? ⟨w.heap.size, 6, none⟩ = some (.int .u16 0) ∧ W.cell? ⟨w.heap.size, 7, none⟩ = some (.int .u16 0) ∧ W.cell? ⟨w.heap.size, 8, none⟩ = some (.int .u16 0) ∧ W.cell? ⟨w.heap.size, 9, none⟩ = some (.int .i64 co) ∧ W.cell? ⟨w.heap.size, 10, none⟩ = some (.int .i64 le) ∧ W.cell? ⟨w.heap.size, 11, none⟩ = some (.bool mo) ∧ W.cell? ⟨w.heap.size, 12, none⟩ = some (.int .i64 nx) ∧ W.cell? ⟨w.heap.size, 13, none⟩ = some (.slice OA ol oc) ∧ Below w4.heap.size w4 W) := by
    intro W hW
    obtain ⟨hc0, hc1, hc2, hc3, hc4, hc5, hc6, hc7, hc8, hc9, hc10, hc11, hc12, hc13⟩ := cells14 (hbx.below hW hz4)
    exact ⟨hc0, hc1, hc2, hc3, hc4, hc5, hc6, hc7, hc8, hc9, hc10, hc11, hc12, hc13, hW⟩
  obtain ⟨hc0, hc1, hc2, hc3, hc4, hc5, hc6, hc7, hc8, hc9, hc10, hc11, hc12, hc13⟩ := cells14 hbx
  have HL4 := Lib.hid (HL.out.below HB4.out)
  clear hb4 hk4 hbx
  have KB : Hid (∀ W, (W.cell? ⟨w.heap.size, 0, none⟩ = some (.int .i64 43) ∧ W.cell? ⟨w.heap.size, 1, none⟩ = some (.int .i64 0) ∧ W.cell? ⟨w.heap.size, 2, none⟩ = some (.slice BA 0 bc) ∧ W.cell? ⟨w.heap.size, 3, none⟩ = some (.slice WA 0 wc) ∧ W.cell? ⟨w.heap.size, 4, none⟩ = some (.int .i64 0) ∧ W.cell? ⟨w.heap.size, 5, none⟩ = some (.int .i64 0) ∧ W.cell? ⟨w.heap.size, 6, none⟩ = some (.int .u16 0) ∧ W.cell? ⟨w.heap.size, 7, none⟩ = some (.int .u16 0) ∧ W.cell? ⟨w.heap.size, 8, none⟩ = some (.int .u16 0) ∧ W.cell? ⟨w.heap.size, 9, none⟩ = some (.int .i64 co) ∧ W.cell? ⟨w.heap.size, 10, none⟩ = some (.int .i64 le) ∧ W.cell? ⟨w.heap.size, 11, none⟩ = some (.bool mo) ∧ W.cell? ⟨w.heap.size, 12, none⟩ = some (.int .i64 nx) ∧ W.cell? ⟨w.heap.size, 13, none⟩ = some (.slice OA ol oc) ∧ Below w4.heap.size w4 W) → Below w4.heap.size w4 W) := fun W h => h.2.2.2.2.2.2.2.2.2.2.2.2.2.2
  have KT : Hid (∀ W W', (W.cell? ⟨w.heap.size, 0, none⟩ = some (.int .i64 43) ∧ W.cell? ⟨w.heap.size, 1, none⟩ = some (.int .i64 0) ∧ W.cell? ⟨w.heap.size, 2, none⟩ = some (.slice BA 0 bc) ∧ W.cell? ⟨w.heap.size, 3, none⟩ = some (.slice WA 0 wc) ∧ W.cell? ⟨w.heap.size, 4, none⟩ = some (.int .i64 0) ∧ W.cell? ⟨w.heap.size, 5, none⟩ = some (.int .i64 0) ∧ W.cell? ⟨w.heap.size, 6, none⟩ = some (.int .u16 0) ∧ W.cell? ⟨w.heap.size, 7, none⟩ = some (.int .u16 0) ∧ W.cell? ⟨w.heap.size, 8, none⟩ = some (.int .u16 0) ∧ W.cell? ⟨w.heap.size, 9, none⟩ = some (.int .i64 co) ∧ W.cell? ⟨w.heap.size, 10, none⟩ = some (.int .i64 le) ∧ W.cell? ⟨w.heap.size, 11, none⟩ = some (.bool mo) ∧ W.cell? ⟨w.heap.size, 12, none⟩ = some (.int .i64 nx) ∧ W.cell? ⟨w.heap.size, 13, none⟩ = some (.slice OA ol oc) ∧ Below w4.heap.size w4 W) → Below W.heap.size W W' → W'.cell? ⟨w.heap.size, 0, none⟩ = some (.int .i64 43) ∧ W'.cell? ⟨w.heap.size, 1, none⟩ = some (.int .i64 0) ∧ W'.cell? ⟨w.heap.size, 2, none⟩ = some (.slice BA 0 bc) ∧ W'.cell? ⟨w.heap.size, 3, none⟩ = some (.slice WA 0 wc) ∧ W'.cell? ⟨w.heap.size, 4, none⟩ = some (.int .i64 0) ∧ W'.cell? ⟨w.heap.size, 5, none⟩ = some (.int .i64 0) ∧ W'.cell? ⟨w.heap.size, 6, none⟩ = some (.int .u16 0) ∧ W'.cell? ⟨w.heap.size, 7, none⟩ = some (.int .u16 0) ∧ W'.cell? ⟨w.heap.size, 8, none⟩ = some (.int .u16 0) ∧ W'.cell? ⟨w.heap.size, 9, none⟩ = some (.int .i64 co) ∧ W'.cell? ⟨w.heap.size, 10, none⟩ = some (.int .i64 le) ∧ W'.cell? ⟨w.heap.size, 11, none⟩ = some (.bool mo) ∧ W'.cell? ⟨w.heap.size, 12, none⟩ = some (.int .i64 nx) ∧ W'.cell? ⟨w.heap.size, 13, none⟩ = some (.slice OA ol oc) ∧ Below w4.heap.size w4 W') := fun W W' h hb => KS.out _ ((KB.out _ h).trans (hb.mono (KB.out _ h).size))
  go_wp2_with fail
  obtain ⟨w5, hw5⟩ : ∃ w5, w4.alloc (.cells #[.int .u8 43] 5) = w5 := ⟨_, rfl⟩
  have HB5 : Hid (Below w4.heap.size w4 w5) := by rw [← hw5]; exact (Below.refl _ _).alloc (Nat.le_refl _) _
  have HO5 : Hid (w5.ownsRow w4.heap.size 5 1 (.slice (some ⟨w4.heap.size, 0, none⟩) 1 1) 1 [.int .u8 43]) := by
    rw [← hw5]
    exact own_of_whole (show WholeV _ w4.heap.size 5 [.int .u8 43] from heap_alloc_new w4 _) (Nat.le_refl _) rfl (by decide)
  rw [hw5]
  clear hw5 hc0 hc1 hc2 hc3 hc4 hc5 hc6 hc7 hc8 hc9 hc10 hc11 hc12 hc13
  go_region_held3 (fun W => W.cell? ⟨w.heap.size, 0, none⟩ = some (.int .i64 43) ∧ W.cell? ⟨w.heap.size, 1, none⟩ = some (.int .i64 0) ∧ W.cell? ⟨w.heap.size, 2, none⟩ = some (.slice BA 0 bc) ∧ W.cell? ⟨w.heap.size, 3, none⟩ = some (.slice WA 0 wc) ∧ W.cell? ⟨w.heap.size, 4, none⟩ = some (.int .i64 0) ∧ W.cell? ⟨w.heap.size, 5, none⟩ = some (.int .i64 0) ∧ W.cell? ⟨w.heap.size, 6, none⟩ = some (.int .u16 0) ∧ W.cell? ⟨w.heap.size, 7, none⟩ = some (.int .u16 0) ∧ W.cell? ⟨w.heap.size, 8, none⟩ = some (.int .u16 0) ∧ W.cell? ⟨w.heap.size, 9, none⟩ = some (.int .i64 co) ∧ W.cell? ⟨w.heap.size, 10, none⟩ = some (.int .i64 le) ∧ W.cell? ⟨w.heap.size, 11, none⟩ = some (.bool mo) ∧ W.cell? ⟨w.heap.size, 12, none⟩ = some (.int .i64 nx) ∧ W.cell? ⟨w.heap.size, 13, none⟩ = some (.slice OA ol oc) ∧ Below w4.heap.size w4 W)
    (first
      | exact KS.out _ HB5.out
      | exact KS.out _ HB5.out.drew
      | exact KT.out _ _ (by assumption) hb6
      | exact KT.out _ _ (by assumption) ((Below.refl _ _).alloc (Nat.le_refl _) _)
      | exact KS.out _ hb8
      | exact KS.out _ hb9)
    (first
      | (refine step_append_at (.tmp 83) (.tmp 95) 30 w4.heap.size 5 (.int .u8 0) 1 Try.underlying30 info5 rfl (.slice (some ⟨w4.heap.size, 0, none⟩) 1 1) 1 [.int .u8 43] 5 [.int .u8 14, .int .u8 co, .int .u8 le, .int .u8 mb, .int .u8 nx] 6 ([43, 14, co, le, mb, nx].map (Value.int .u8)) rfl rfl (by simp [Value.oneCell']) (by omega) (by omega) ?_ ?_ ?_ ?_ ?_
         · exact ⟨rfl, rfl, rfl⟩
         · first | exact ho6.alloc _ | exact ho6
         · first
             | exact ⟨_, _, rfl, built_row _ _ [.int .u8 14, .int .u8 co, .int .u8 le, .int .u8 mb, .int .u8 nx] _ (Below.refl _ _)⟩
             | exact ⟨_, _, rfl, built_row _ _ [.int .u8 14, .int .u8 co, .int .u8 le, .int .u8 mb, .int .u8 nx] _ (Below.refl _ _).drew⟩
         · exact (KB.out _ (by assumption)).size
         intro A8 c8 w8 ho8 hg8 hat8
         have hb8 : Below w4.heap.size w4 w8 := by first | exact below_append (KB.out _ (by assumption)) (ho6.alloc _) hg8 (KB.out _ (by assumption)).size | exact below_append (KB.out _ (by assumption)) ho6 hg8 (KB.out _ (by assumption)).size)
      | (go_at_call 25
         (with_reducible refine (CM.out _).mono ?_)
         rintro e w6 ⟨rfl, hb6⟩
         have ho6 : w6.ownsRow w4.heap.size 5 1 (.slice (some ⟨w4.heap.size, 0, none⟩) 1 1) 1 [.int .u8 43] := by first | exact own_keep HO5.out hb6 | exact own_keep HO5.out (below_from (d := 1) hb6))
      | (go_at_call 24
         refine (putobjs_any w4.heap.size A8 6 c8 [43, 14, co, le, mb, nx] OA ol oc os _ ho8 (RowV.below HL4.out (KB.out _ (by assumption))) (KB.out _ (by assumption)).size HID.out HSS.out hol (by omega)).mono ?_
         rintro e w9 ⟨m9, C9, cc9, rfl, hm9, ho9, hb9'⟩
         have hb9 : Below w4.heap.size w4 w9 := (KB.out _ (by assumption)).trans hb9'))
  all_goals
    go_wp2
    go_ret2
    have hm8 : m9 = 7 + used os := by omega
    rw [hm8] at ho9
    have hu8 : ([43, 14, co, le, mb, nx] ++ [(ol : Int)] ++ flatO os) = [43, 14, co, le, mb, nx, (ol : Int)] ++ flatO os := rfl
    rw [hu8] at ho9
    exact ⟨7 + used os, C9, cc9, rfl, rfl, own_mono ho9 (Nat.le_of_lt hz4), HB4.out.trans (hb9.mono (Nat.le_of_lt hz4))⟩

theorem pbT_no (fn ex : Int) (bl wl : Nat) (at_ q v an orr co le : Int) (mo : Bool) (nx : Int) (ol : Nat) (BA WA OA : Option Addr) (bc wc oc : Nat) (w : World) (fo : Bool) (hw : WideT at_ q v an orr co le nx) (hf : Fits w OA ol oc fo) (h : ¬ tellP fn ex bl wl at_ q v an orr co le mo.toNat nx ol fo.toNat) :
    Calls Try.prog 7 #[.agg #[.int .i64 fn, .int .i64 ex, .slice BA bl bc, .slice WA wl wc, .int .i64 at_, .int .i64 q, .int .u16 v, .int .u16 an, .int .u16 orr, .int .i64 co, .int .i64 le, .bool mo, .int .i64 nx, .slice OA ol oc]] w fun e w' => e = .returned (.tuple #[.slice none 0 0, .int .i64 1]) ∧ Below w.heap.size w w' := by
  have HW := Lib.hid hw
  have HF := Lib.hid hf
  have HP := Lib.hid (decide_eq_false h)
  clear hw hf h
  go_enter Try.func7, Try.ntmps7
  go_wp2_with (go_at_call 9; refine (ptr_any fn ex bl wl at_ q v an orr co le mo nx ol BA WA OA bc wc oc _ fo false HW.out (HF.out.on ((Below.refl _ _).alloc (Nat.le_refl _) _)) HP.out).mono ?_; rintro e w1 ⟨rfl, hb1⟩; have HB1 : Hid (Below w.heap.size w w1) := ((Below.refl _ _).alloc (Nat.le_refl _) _).trans (hb1.mono (by simp)); clear hb1)
  go_ret2
  exact ⟨rfl, HB1.out⟩

theorem pbT_exc (fn ex : Int) (bl wl : Nat) (at_ q v an orr co le : Int) (mo : Bool) (nx : Int) (ol : Nat) (BA WA OA : Option Addr) (bc wc oc : Nat) (w : World) (fo : Bool) (hw : WideT at_ q v an orr co le nx) (hx : ex ≠ 0) (h : tellP fn ex bl wl at_ q v an orr co le mo.toNat nx ol fo.toNat) :
    Calls Try.prog 7 #[.agg #[.int .i64 fn, .int .i64 ex, .slice BA bl bc, .slice WA wl wc, .int .i64 at_, .int .i64 q, .int .u16 v, .int .u16 an, .int .u16 orr, .int .i64 co, .int .i64 le, .bool mo, .int .i64 nx, .slice OA ol oc]] w fun e w' => ∃ g, e = .returned (.tuple #[.slice (some ⟨g, 0, none⟩) 2 2, .int .i64 0]) ∧ Whole .u8 w' g 5 [fn % 128 + 128, ex] ∧ w.heap.size ≤ g ∧ Below w.heap.size w w' := by
  have hq := (tell_exc hx).1 h
  have f0 := hq.2.1.1
  have f1 := hq.2.1.2
  have x0 : 0 ≤ ex := by omega
  have x1 : ex ≤ 255 := by omega
  have eo := or128 fn f0 f1
  have b0 : 0 ≤ fn % 128 + 128 := by omega
  have b1 : fn % 128 + 128 ≤ 255 := by omega
  have ef : IntKind.u8.wrap fn = fn := IntWalk.u8_in _ (by omega)
  have ee : IntKind.u8.wrap ex = ex := IntWalk.u8_in _ (by omega)
  have HW := Lib.hid hw
  have HP := Lib.hid (decide_eq_true h)
  clear hw h hq
  go_enter Try.func7, Try.ntmps7
  go_wp2_with (go_at_call 9
               refine (ptr_exc fn ex bl wl at_ q v an orr co le mo nx ol BA WA OA bc wc oc _ fo true HW.out hx HP.out).mono ?_
               rintro e w1 ⟨rfl, hb1⟩
               have HB1 : Hid (Below w.heap.size w w1) := ((Below.refl _ _).alloc (Nat.le_refl _) _).trans (hb1.mono (by simp))
               have hk1 : Below (w.heap.size + 1) (w.alloc (.cells #[.int .i64 fn, .int .i64 ex, .slice BA bl bc, .slice WA wl wc, .int .i64 at_, .int .i64 q, .int .u16 v, .int .u16 an, .int .u16 orr, .int .i64 co, .int .i64 le, .bool mo, .int .i64 nx, .slice OA ol oc] 28)) w1 := by
                 rwa [show (w.alloc (.cells #[.int .i64 fn, .int .i64 ex, .slice BA bl bc, .slice WA wl wc, .int .i64 at_, .int .i64 q, .int .u16 v, .int .u16 an, .int .u16 orr, .int .i64 co, .int .i64 le, .bool mo, .int .i64 nx, .slice OA ol oc] 28)).heap.size = w.heap.size + 1 by simp] at hb1
               obtain ⟨hc0, hc1, hc2, hc3, hc4, hc5, hc6, hc7, hc8, hc9, hc10, hc11, hc12, hc13⟩ := cells14 (box14 _ _ _ _ _ _ _ _ _ _ _ _ _ _ _ w w1 hk1)
               clear hb1 hk1)
  go_ret2
  exact ⟨w1.heap.size, rfl, heap_alloc_new w1 _, HB1.out.size, HB1.out.alloc HB1.out.size _⟩

end Go.Proofs.Ytielfekkonflfaa
