/- Joined: TBack TBack2 TMadeK TBack3. -/
import Derived.Test.YtielfekkonflfaaJTellBack6
import Derived.Test.YtielfekkonflfaaJTellBack7
import Derived.Test.YtielfekkonflfaaJTellBack8
import Derived.Test.YtielfekkonflfaaJTellBack5
import Derived.Test.YtielfekkonflfaaJTellBack14
import Derived.Test.YtielfekkonflfaaJTellBack12
import Derived.Test.YtielfekkonflfaaJTellBack13
namespace Go.Proofs.Ytielfekkonflfaa
open Go.ChangeShapes Go.WideShapes Go.ChangeAt Go.RowKit
set_option linter.unusedVariables false
set_option linter.unusedSimpArgs false

theorem str_bsOf (S : ByteArray) : strOfNums (bsOf S) = S := by
  unfold strOfNums bsOf
  rw [List.map_map]
  have h : ((fun n : Int => UInt8.ofNat n.toNat) ∘ fun b : UInt8 => ((b.toNat : Nat) : Int)) = id := by
    funext b
    simp
  rw [h, List.map_id]
theorem bsOf_bytes (S : ByteArray) : Bytes8 (bsOf S) := by
  intro x hx
  obtain ⟨b, _, rfl⟩ := List.mem_map.1 hx
  have := b.toNat_lt
  omega
theorem flatO_cons (o : Ob) (os : List Ob) : flatO (o :: os) = o.1 :: (o.2.size : Int) :: (bsOf o.2 ++ flatO os) := by simp [flatO]
theorem parseO_flat : ∀ os : List Ob, parseO os.length (flatO os) = some os
  | [] => rfl
  | (x, S) :: os => by
    have hb := bsOf_length S
    rw [flatO_cons, List.length_cons]
    unfold parseO
    have h1 : (x :: (S.size : Int) :: (bsOf S ++ flatO os)).getD 1 0 = (S.size : Int) := rfl
    have h0 : (x :: (S.size : Int) :: (bsOf S ++ flatO os)).getD 0 0 = x := rfl
    dsimp only
    rw [h1, h0, Int.toNat_natCast, if_neg (by simp), if_neg (by simp [hb]; omega)]
    have hd : (x :: (S.size : Int) :: (bsOf S ++ flatO os)).drop (2 + S.size) = flatO os := by
      rw [Nat.add_comm, ← List.drop_drop]
      simp [← hb]
    have ht : ((x :: (S.size : Int) :: (bsOf S ++ flatO os)).drop 2).take S.size = bsOf S := by simp [← hb]
    rw [hd, ht, parseO_flat os, str_bsOf]
    rfl
theorem flatO_bytes (os : List Ob) (h : ∀ o ∈ os, 0 ≤ o.1 ∧ o.1 ≤ 255 ∧ o.2.size ≤ 255) : Bytes8 (flatO os) := by
  intro x hx
  obtain ⟨o, ho, hm⟩ := List.mem_flatMap.1 hx
  have := h o ho
  rcases List.mem_cons.1 hm with rfl | hm
  · omega
  · rcases List.mem_cons.1 hm with rfl | hm
    · omega
    · exact bsOf_bytes _ x hm

theorem used_len (os : List Ob) : os.length ≤ used os := by
  induction os with
  | nil => exact Nat.zero_le _
  | cons o os ih => rw [used_cons, List.length_cons]; omega
theorem used_of (os : List Ob) (o : Ob) (h : o ∈ os) : 2 + o.2.size ≤ used os := by
  induction os with
  | nil => cases h
  | cons p os ih =>
    rw [used_cons]
    rcases List.mem_cons.1 h with rfl | h
    · omega
    · have := ih h
      omega

section
variable {m : Int}

theorem back_6 (at_ v : Int) (a0 : 0 ≤ at_) (a1 : at_ ≤ 65535) (v0 : 0 ≤ v) (v1 : v ≤ 65535) (hr : ({ fn := 6, at_ := at_, v := v } : TV).right) : let zs : List Int := [6, at_ / 256, at_ % 256, v / 256, v % 256]
    ∀ b off c w, PIn zs 5 b off c w → TGot 8 (some ⟨b, off, none⟩) 5 c m ({ fn := 6, at_ := at_, v := v } : TV) w := by
  intro zs b off c w h
  have hf : ({ fn := 6, at_ := at_, v := v } : TV).Fine := ⟨⟨by dsimp only; omega, by dsimp only; omega, by dsimp only; omega, by dsimp only; omega, by dsimp only; omega, by dsimp only; omega, by dsimp only; omega, by dsimp only; omega, by dsimp only; omega, by dsimp only; omega, by dsimp only; omega, by dsimp only; omega, by dsimp only; omega, by dsimp only; omega, by dsimp only; omega, by dsimp only; omega⟩, by dsimp only; omega, by dsimp only; omega, by dsimp only; omega, fun o ho => by cases ho⟩
  have hx : Bytes8 zs := by
    intro x hx
    simp [zs] at hx
    omega
  have h1 : gotW zs 5 1 = at_ := by simp [gotW, zs, wordAt]; omega
  have h3 : gotW zs 5 3 = v := by simp [gotW, zs, wordAt]; omega
  exact p_ok hf (fun b off c w h => ok_of_plain ({ fn := 6, at_ := at_, v := v } : TV) rfl rfl rfl rfl rfl rfl (pfl_6 b off 5 c zs m at_ v w h.1 hx (by omega) rfl h.2.1 (h.2.2 (by omega)) h1 h3 rfl)) h hr

theorem back_15 (at_ q : Int) (a0 : 0 ≤ at_) (a1 : at_ ≤ 65535) (v0 : 0 ≤ q) (v1 : q ≤ 65535) (hr : ({ fn := 15, at_ := at_, q := q } : TV).right) : let zs : List Int := [15, at_ / 256, at_ % 256, q / 256, q % 256]
    ∀ b off c w, PIn zs 5 b off c w → TGot 8 (some ⟨b, off, none⟩) 5 c m ({ fn := 15, at_ := at_, q := q } : TV) w := by
  intro zs b off c w h
  have hf : ({ fn := 15, at_ := at_, q := q } : TV).Fine := ⟨⟨by dsimp only; omega, by dsimp only; omega, by dsimp only; omega, by dsimp only; omega, by dsimp only; omega, by dsimp only; omega, by dsimp only; omega, by dsimp only; omega, by dsimp only; omega, by dsimp only; omega, by dsimp only; omega, by dsimp only; omega, by dsimp only; omega, by dsimp only; omega, by dsimp only; omega, by dsimp only; omega⟩, by dsimp only; omega, by dsimp only; omega, by dsimp only; omega, fun o ho => by cases ho⟩
  have hx : Bytes8 zs := by
    intro x hx
    simp [zs] at hx
    omega
  have h1 : gotW zs 5 1 = at_ := by simp [gotW, zs, wordAt]; omega
  have h3 : gotW zs 5 3 = q := by simp [gotW, zs, wordAt]; omega
  exact p_ok hf (fun b off c w h => ok_of_plain ({ fn := 15, at_ := at_, q := q } : TV) rfl rfl rfl rfl rfl rfl (pfl_15 b off 5 c zs m at_ q w h.1 hx (by omega) rfl h.2.1 (h.2.2 (by omega)) h1 h3 rfl)) h hr

theorem back_16 (at_ q : Int) (a0 : 0 ≤ at_) (a1 : at_ ≤ 65535) (v0 : 0 ≤ q) (v1 : q ≤ 65535) (hr : ({ fn := 16, at_ := at_, q := q } : TV).right) : let zs : List Int := [16, at_ / 256, at_ % 256, q / 256, q % 256]
    ∀ b off c w, PIn zs 5 b off c w → TGot 8 (some ⟨b, off, none⟩) 5 c m ({ fn := 16, at_ := at_, q := q } : TV) w := by
  intro zs b off c w h
  have hf : ({ fn := 16, at_ := at_, q := q } : TV).Fine := ⟨⟨by dsimp only; omega, by dsimp only; omega, by dsimp only; omega, by dsimp only; omega, by dsimp only; omega, by dsimp only; omega, by dsimp only; omega, by dsimp only; omega, by dsimp only; omega, by dsimp only; omega, by dsimp only; omega, by dsimp only; omega, by dsimp only; omega, by dsimp only; omega, by dsimp only; omega, by dsimp only; omega⟩, by dsimp only; omega, by dsimp only; omega, by dsimp only; omega, fun o ho => by cases ho⟩
  have hx : Bytes8 zs := by
    intro x hx
    simp [zs] at hx
    omega
  have h1 : gotW zs 5 1 = at_ := by simp [gotW, zs, wordAt]; omega
  have h3 : gotW zs 5 3 = q := by simp [gotW, zs, wordAt]; omega
  exact p_ok hf (fun b off c w h => ok_of_plain ({ fn := 16, at_ := at_, q := q } : TV) rfl rfl rfl rfl rfl rfl (pfl_16 b off 5 c zs m at_ q w h.1 hx (by omega) rfl h.2.1 (h.2.2 (by omega)) h1 h3 rfl)) h hr

theorem back_22 (at_ an orr : Int) (a0 : 0 ≤ at_) (a1 : at_ ≤ 65535) (v0 : 0 ≤ an) (v1 : an ≤ 65535) (o0 : 0 ≤ orr) (o1 : orr ≤ 65535) (hr : ({ fn := 22, at_ := at_, an := an, orr := orr } : TV).right) : let zs : List Int := [22, at_ / 256, at_ % 256, an / 256, an % 256, orr / 256, orr % 256]
    ∀ b off c w, PIn zs 7 b off c w → TGot 8 (some ⟨b, off, none⟩) 7 c m ({ fn := 22, at_ := at_, an := an, orr := orr } : TV) w := by
  intro zs b off c w h
  have hf : ({ fn := 22, at_ := at_, an := an, orr := orr } : TV).Fine := ⟨⟨by dsimp only; omega, by dsimp only; omega, by dsimp only; omega, by dsimp only; omega, by dsimp only; omega, by dsimp only; omega, by dsimp only; omega, by dsimp only; omega, by dsimp only; omega, by dsimp only; omega, by dsimp only; omega, by dsimp only; omega, by dsimp only; omega, by dsimp only; omega, by dsimp only; omega, by dsimp only; omega⟩, by dsimp only; omega, by dsimp only; omega, by dsimp only; omega, fun o ho => by cases ho⟩
  have hx : Bytes8 zs := by
    intro x hx
    simp [zs] at hx
    omega
  have h1 : gotW zs 7 1 = at_ := by simp [gotW, zs, wordAt]; omega
  have h3 : gotW zs 7 3 = an := by simp [gotW, zs, wordAt]; omega
  have h5 : gotW zs 7 5 = orr := by simp [gotW, zs, wordAt]; omega
  exact p_ok hf (fun b off c w h => ok_of_plain ({ fn := 22, at_ := at_, an := an, orr := orr } : TV) rfl rfl rfl rfl rfl rfl (pfl_22 b off 7 c zs m at_ an orr w h.1 hx (by omega) rfl h.2.1 (h.2.2 (by omega)) h1 h3 rfl h5)) h hr

theorem back_5_0 (at_ : Int) (a0 : 0 ≤ at_) (a1 : at_ ≤ 65535) (hr : ({ fn := 5, at_ := at_ } : TV).right) : let zs : List Int := [5, at_ / 256, at_ % 256, 0, 0]
    ∀ b off c w, PIn zs 5 b off c w → TGot 8 (some ⟨b, off, none⟩) 5 c m ({ fn := 5, at_ := at_ } : TV) w := by
  intro zs b off c w h
  have hf : ({ fn := 5, at_ := at_ } : TV).Fine := ⟨⟨by dsimp only; omega, by dsimp only; omega, by dsimp only; omega, by dsimp only; omega, by dsimp only; omega, by dsimp only; omega, by dsimp only; omega, by dsimp only; omega, by dsimp only; omega, by dsimp only; omega, by dsimp only; omega, by dsimp only; omega, by dsimp only; omega, by dsimp only; omega, by dsimp only; omega, by dsimp only; omega⟩, by dsimp only; omega, by dsimp only; omega, by dsimp only; omega, fun o ho => by cases ho⟩
  have hx : Bytes8 zs := by
    intro x hx
    simp [zs] at hx
    omega
  have h1 : gotW zs 5 1 = at_ := by simp [gotW, zs, wordAt]; omega
  have h3 : gotW zs 5 3 = 0 := by simp [gotW, zs, wordAt]
  exact p_ok hf (fun b off c w h => ok_of_plain ({ fn := 5, at_ := at_ } : TV) rfl rfl rfl rfl rfl rfl (pfl_5_0 b off 5 c zs m at_ 0 w h.1 hx (by omega) rfl h.2.1 (h.2.2 (by omega)) h1 h3 rfl rfl)) h hr

theorem back_5_1 (at_ : Int) (a0 : 0 ≤ at_) (a1 : at_ ≤ 65535) (hr : ({ fn := 5, at_ := at_, v := 1 } : TV).right) : let zs : List Int := [5, at_ / 256, at_ % 256, 255, 0]
    ∀ b off c w, PIn zs 5 b off c w → TGot 8 (some ⟨b, off, none⟩) 5 c m ({ fn := 5, at_ := at_, v := 1 } : TV) w := by
  intro zs b off c w h
  have hf : ({ fn := 5, at_ := at_, v := 1 } : TV).Fine := ⟨⟨by dsimp only; omega, by dsimp only; omega, by dsimp only; omega, by dsimp only; omega, by dsimp only; omega, by dsimp only; omega, by dsimp only; omega, by dsimp only; omega, by dsimp only; omega, by dsimp only; omega, by dsimp only; omega, by dsimp only; omega, by dsimp only; omega, by dsimp only; omega, by dsimp only; omega, by dsimp only; omega⟩, by dsimp only; omega, by dsimp only; omega, by dsimp only; omega, fun o ho => by cases ho⟩
  have hx : Bytes8 zs := by
    intro x hx
    simp [zs] at hx
    omega
  have h1 : gotW zs 5 1 = at_ := by simp [gotW, zs, wordAt]; omega
  have h3 : gotW zs 5 3 = 65280 := by simp [gotW, zs, wordAt]
  exact p_ok hf (fun b off c w h => ok_of_plain ({ fn := 5, at_ := at_, v := 1 } : TV) rfl rfl rfl rfl rfl rfl (pfl_5_1 b off 5 c zs m at_ 65280 w h.1 hx (by omega) rfl h.2.1 (h.2.2 (by omega)) h1 h3 rfl rfl)) h hr

theorem back_1 (k : Nat) (bs : List Bool) (hb : bs.length = k) (hk : 1 ≤ k ∧ k ≤ 2000) (hr : ({ fn := 1, bl := k, bs := bs } : TV).right) : ∀ b off c w, PIn ([1, ((nb k : Nat) : Int)] ++ pk bs k) (2 + nb k) b off c w → TGot 8 (some ⟨b, off, none⟩) (2 + nb k) c (k : Int) ({ fn := 1, bl := k, bs := bs } : TV) w := by
  intro b off c w h
  have hf : ({ fn := 1, bl := k, bs := bs } : TV).Fine := ⟨⟨by dsimp only; omega, by dsimp only; omega, by dsimp only; omega, by dsimp only; omega, by dsimp only; omega, by dsimp only; omega, by dsimp only; omega, by dsimp only; omega, by dsimp only; omega, by dsimp only; omega, by dsimp only; omega, by dsimp only; omega, by dsimp only; omega, by dsimp only; omega, by dsimp only; omega, by dsimp only; omega⟩, by dsimp only; omega, by dsimp only; omega, by dsimp only; omega, fun o ho => by cases ho⟩
  have hn : nb k ≤ 250 ∧ 1 ≤ nb k := by unfold nb; omega
  have hx : Bytes8 ([1, ((nb k : Nat) : Int)] ++ pk bs k) := by
    intro x hx
    rcases List.mem_append.1 hx with hx | hx
    · simp at hx
      omega
    · exact pk_bytes bs k x hx
  have hu : unb (([1, ((nb k : Nat) : Int)] ++ pk bs k).drop 2) k = bs := by
    subst hb
    exact unb_pk bs
  refine p_ok hf (fun b off c w h => (pfl_b_yes_1 b off (2 + nb k) c ([1, ((nb k : Nat) : Int)] ++ pk bs k) (k : Int) _ _ (nb k) k w h.1 hx (by omega) rfl h.2.1 (h.2.2 (by omega)) rfl rfl rfl rfl rfl rfl).mono fun e w' h => ?_) h hr
  obtain ⟨G, g, he, ho, hb⟩ := h
  rw [hu] at ho
  exact ⟨G, g, none, 0, none, 0, he, ⟨ho, own_none _ _ _, own2_none _ _ _⟩, hb⟩

theorem back_2 (k : Nat) (bs : List Bool) (hb : bs.length = k) (hk : 1 ≤ k ∧ k ≤ 2000) (hr : ({ fn := 2, bl := k, bs := bs } : TV).right) : ∀ b off c w, PIn ([2, ((nb k : Nat) : Int)] ++ pk bs k) (2 + nb k) b off c w → TGot 8 (some ⟨b, off, none⟩) (2 + nb k) c (k : Int) ({ fn := 2, bl := k, bs := bs } : TV) w := by
  intro b off c w h
  have hf : ({ fn := 2, bl := k, bs := bs } : TV).Fine := ⟨⟨by dsimp only; omega, by dsimp only; omega, by dsimp only; omega, by dsimp only; omega, by dsimp only; omega, by dsimp only; omega, by dsimp only; omega, by dsimp only; omega, by dsimp only; omega, by dsimp only; omega, by dsimp only; omega, by dsimp only; omega, by dsimp only; omega, by dsimp only; omega, by dsimp only; omega, by dsimp only; omega⟩, by dsimp only; omega, by dsimp only; omega, by dsimp only; omega, fun o ho => by cases ho⟩
  have hn : nb k ≤ 250 ∧ 1 ≤ nb k := by unfold nb; omega
  have hx : Bytes8 ([2, ((nb k : Nat) : Int)] ++ pk bs k) := by
    intro x hx
    rcases List.mem_append.1 hx with hx | hx
    · simp at hx
      omega
    · exact pk_bytes bs k x hx
  have hu : unb (([2, ((nb k : Nat) : Int)] ++ pk bs k).drop 2) k = bs := by
    subst hb
    exact unb_pk bs
  refine p_ok hf (fun b off c w h => (pfl_b_yes_2 b off (2 + nb k) c ([2, ((nb k : Nat) : Int)] ++ pk bs k) (k : Int) _ _ (nb k) k w h.1 hx (by omega) rfl h.2.1 (h.2.2 (by omega)) rfl rfl rfl rfl rfl rfl).mono fun e w' h => ?_) h hr
  obtain ⟨G, g, he, ho, hb⟩ := h
  rw [hu] at ho
  exact ⟨G, g, none, 0, none, 0, he, ⟨ho, own_none _ _ _, own2_none _ _ _⟩, hb⟩

theorem back_3 (k : Nat) (ws : List Int) (hb : ws.length = k) (hw : Words ws) (hk : 1 ≤ k ∧ k ≤ 125) (hr : ({ fn := 3, wl := k, ws := ws } : TV).right) : ∀ b off c w, PIn ([3, ((2 * k : Nat) : Int)] ++ flat ws) (2 + 2 * k) b off c w → TGot 8 (some ⟨b, off, none⟩) (2 + 2 * k) c m ({ fn := 3, wl := k, ws := ws } : TV) w := by
  intro b off c w h
  have hf : ({ fn := 3, wl := k, ws := ws } : TV).Fine := ⟨⟨by dsimp only; omega, by dsimp only; omega, by dsimp only; omega, by dsimp only; omega, by dsimp only; omega, by dsimp only; omega, by dsimp only; omega, by dsimp only; omega, by dsimp only; omega, by dsimp only; omega, by dsimp only; omega, by dsimp only; omega, by dsimp only; omega, by dsimp only; omega, by dsimp only; omega, by dsimp only; omega⟩, by dsimp only; omega, by dsimp only; omega, by dsimp only; omega, fun o ho => by cases ho⟩
  have hx : Bytes8 ([3, ((2 * k : Nat) : Int)] ++ flat ws) := by
    intro x hx
    rcases List.mem_append.1 hx with hx | hx
    · simp at hx
      omega
    · exact flat_bytes ws hw x hx
  have hu : wordsAt (([3, ((2 * k : Nat) : Int)] ++ flat ws).drop 2) 0 k = ws := by
    subst hb
    exact wordsAt_flat ws hw
  refine p_ok hf (fun b off c w h => (pfl_w_yes_3 b off (2 + 2 * k) c ([3, ((2 * k : Nat) : Int)] ++ flat ws) m _ _ (2 * k) k w h.1 hx (by omega) rfl h.2.1 (h.2.2 (by omega)) rfl rfl rfl rfl rfl).mono fun e w' h => ?_) h hr
  obtain ⟨G, g, he, ho, hb⟩ := h
  rw [hu] at ho
  exact ⟨none, 0, G, g, none, 0, he, ⟨own_none _ _ _, ho, own2_none _ _ _⟩, hb⟩

theorem back_4 (k : Nat) (ws : List Int) (hb : ws.length = k) (hw : Words ws) (hk : 1 ≤ k ∧ k ≤ 125) (hr : ({ fn := 4, wl := k, ws := ws } : TV).right) : ∀ b off c w, PIn ([4, ((2 * k : Nat) : Int)] ++ flat ws) (2 + 2 * k) b off c w → TGot 8 (some ⟨b, off, none⟩) (2 + 2 * k) c m ({ fn := 4, wl := k, ws := ws } : TV) w := by
  intro b off c w h
  have hf : ({ fn := 4, wl := k, ws := ws } : TV).Fine := ⟨⟨by dsimp only; omega, by dsimp only; omega, by dsimp only; omega, by dsimp only; omega, by dsimp only; omega, by dsimp only; omega, by dsimp only; omega, by dsimp only; omega, by dsimp only; omega, by dsimp only; omega, by dsimp only; omega, by dsimp only; omega, by dsimp only; omega, by dsimp only; omega, by dsimp only; omega, by dsimp only; omega⟩, by dsimp only; omega, by dsimp only; omega, by dsimp only; omega, fun o ho => by cases ho⟩
  have hx : Bytes8 ([4, ((2 * k : Nat) : Int)] ++ flat ws) := by
    intro x hx
    rcases List.mem_append.1 hx with hx | hx
    · simp at hx
      omega
    · exact flat_bytes ws hw x hx
  have hu : wordsAt (([4, ((2 * k : Nat) : Int)] ++ flat ws).drop 2) 0 k = ws := by
    subst hb
    exact wordsAt_flat ws hw
  refine p_ok hf (fun b off c w h => (pfl_w_yes_4 b off (2 + 2 * k) c ([4, ((2 * k : Nat) : Int)] ++ flat ws) m _ _ (2 * k) k w h.1 hx (by omega) rfl h.2.1 (h.2.2 (by omega)) rfl rfl rfl rfl rfl).mono fun e w' h => ?_) h hr
  obtain ⟨G, g, he, ho, hb⟩ := h
  rw [hu] at ho
  exact ⟨none, 0, G, g, none, 0, he, ⟨own_none _ _ _, ho, own2_none _ _ _⟩, hb⟩

theorem back_23 (k : Nat) (ws : List Int) (hb : ws.length = k) (hw : Words ws) (hk : 1 ≤ k ∧ k ≤ 125) (hr : ({ fn := 23, wl := k, ws := ws } : TV).right) : ∀ b off c w, PIn ([23, ((2 * k : Nat) : Int)] ++ flat ws) (2 + 2 * k) b off c w → TGot 8 (some ⟨b, off, none⟩) (2 + 2 * k) c m ({ fn := 23, wl := k, ws := ws } : TV) w := by
  intro b off c w h
  have hf : ({ fn := 23, wl := k, ws := ws } : TV).Fine := ⟨⟨by dsimp only; omega, by dsimp only; omega, by dsimp only; omega, by dsimp only; omega, by dsimp only; omega, by dsimp only; omega, by dsimp only; omega, by dsimp only; omega, by dsimp only; omega, by dsimp only; omega, by dsimp only; omega, by dsimp only; omega, by dsimp only; omega, by dsimp only; omega, by dsimp only; omega, by dsimp only; omega⟩, by dsimp only; omega, by dsimp only; omega, by dsimp only; omega, fun o ho => by cases ho⟩
  have hx : Bytes8 ([23, ((2 * k : Nat) : Int)] ++ flat ws) := by
    intro x hx
    rcases List.mem_append.1 hx with hx | hx
    · simp at hx
      omega
    · exact flat_bytes ws hw x hx
  have hu : wordsAt (([23, ((2 * k : Nat) : Int)] ++ flat ws).drop 2) 0 k = ws := by
    subst hb
    exact wordsAt_flat ws hw
  refine p_ok hf (fun b off c w h => (pfl_w_yes_23 b off (2 + 2 * k) c ([23, ((2 * k : Nat) : Int)] ++ flat ws) m _ _ (2 * k) k w h.1 hx (by omega) rfl h.2.1 (h.2.2 (by omega)) rfl rfl rfl rfl rfl).mono fun e w' h => ?_) h hr
  obtain ⟨G, g, he, ho, hb⟩ := h
  rw [hu] at ho
  exact ⟨none, 0, G, g, none, 0, he, ⟨own_none _ _ _, ho, own2_none _ _ _⟩, hb⟩

theorem back_43_0 (co le nx : Int) (os : List Ob) (hu : used os ≤ 246) (hid : ∀ o ∈ os, 0 ≤ o.1 ∧ o.1 ≤ 255) (c0 : 0 ≤ co ∧ co ≤ 255) (l0 : 0 ≤ le ∧ le ≤ 255) (x0 : 0 ≤ nx ∧ nx ≤ 255) (hr : ({ fn := 43, co := co, le := le, mo := false, nx := nx, ol := os.length, os := os } : TV).right) :
    ∀ b off c w, PIn ([43, 14, co, le, 0, nx, (os.length : Int)] ++ flatO os) (7 + used os) b off c w → TGot 8 (some ⟨b, off, none⟩) (7 + used os) c m ({ fn := 43, co := co, le := le, mo := false, nx := nx, ol := os.length, os := os } : TV) w := by
  intro b off c w h
  have hol : os.length ≤ 246 := Nat.le_trans (used_len os) hu
  have hsz : ∀ o ∈ os, o.2.size ≤ 246 := fun o ho => by have := used_of os o ho; omega
  have hf : ({ fn := 43, co := co, le := le, mo := false, nx := nx, ol := os.length, os := os } : TV).Fine := ⟨⟨by dsimp only; omega, by dsimp only; omega, by dsimp only; omega, by dsimp only; omega, by dsimp only; omega, by dsimp only; omega, by dsimp only; omega, by dsimp only; omega, by dsimp only; omega, by dsimp only; omega, by dsimp only; omega, by dsimp only; omega, by dsimp only; omega, by dsimp only; omega, by dsimp only; omega, by dsimp only; omega⟩, by dsimp only; omega, by dsimp only; omega, by dsimp only; omega, fun o ho => by have := hsz o ho; omega⟩
  have hx : Bytes8 ([43, 14, co, le, 0, nx, (os.length : Int)] ++ flatO os) := by
    intro x hx
    rcases List.mem_append.1 hx with hx | hx
    · simp at hx
      omega
    · exact flatO_bytes os (fun o ho => by have h1 := hid o ho; have h2 := hsz o ho; omega) x hx
  have hpo : parseO os.length (([43, 14, co, le, 0, nx, (os.length : Int)] ++ flatO os).drop 7) = some os := parseO_flat os
  refine p_ok hf (fun b off c w h => ?_) h hr
  have hdev : Calls Try.prog 26 #[.slice (some ⟨b, off, none⟩) (7 + used os) c, .int .i64 m] w fun e w' => DevGotfalse co le nx os.length ([43, 14, co, le, 0, nx, (os.length : Int)] ++ flatO os) w e w' := by
    by_cases h7 : c = 7
    · exact pfl7_43_0 b off (7 + used os) c _ m _ _ co le nx os.length w h.1 hx (by omega) rfl h.2.1 (h.2.2 (by omega)) rfl rfl (by have := h.2.1; omega) h7 rfl rfl rfl rfl rfl rfl
    · exact pfl_43_0 b off (7 + used os) c _ m _ _ co le nx os.length w h.1 hx (by omega) rfl h.2.1 (h.2.2 (by omega)) rfl rfl (by omega) (by have := h.2.1; omega) rfl rfl rfl rfl rfl rfl
  refine hdev.mono fun e w' k => ?_
  obtain ⟨OA, ol, oc, ok, he, hb, hs, _⟩ := k
  obtain ⟨rfl, rfl, ho⟩ := hs os hpo
  exact ⟨none, 0, none, 0, OA, oc, he, ⟨own_none _ _ _, own_none _ _ _, own2_mono ho (Nat.le_add_right _ _)⟩, hb⟩

theorem back_43_5 (co le nx : Int) (os : List Ob) (hu : used os ≤ 246) (hid : ∀ o ∈ os, 0 ≤ o.1 ∧ o.1 ≤ 255) (c0 : 0 ≤ co ∧ co ≤ 255) (l0 : 0 ≤ le ∧ le ≤ 255) (x0 : 0 ≤ nx ∧ nx ≤ 255) (hr : ({ fn := 43, co := co, le := le, mo := true, nx := nx, ol := os.length, os := os } : TV).right) :
    ∀ b off c w, PIn ([43, 14, co, le, 255, nx, (os.length : Int)] ++ flatO os) (7 + used os) b off c w → TGot 8 (some ⟨b, off, none⟩) (7 + used os) c m ({ fn := 43, co := co, le := le, mo := true, nx := nx, ol := os.length, os := os } : TV) w := by
  intro b off c w h
  have hol : os.length ≤ 246 := Nat.le_trans (used_len os) hu
  have hsz : ∀ o ∈ os, o.2.size ≤ 246 := fun o ho => by have := used_of os o ho; omega
  have hf : ({ fn := 43, co := co, le := le, mo := true, nx := nx, ol := os.length, os := os } : TV).Fine := ⟨⟨by dsimp only; omega, by dsimp only; omega, by dsimp only; omega, by dsimp only; omega, by dsimp only; omega, by dsimp only; omega, by dsimp only; omega, by dsimp only; omega, by dsimp only; omega, by dsimp only; omega, by dsimp only; omega, by dsimp only; omega, by dsimp only; omega, by dsimp only; omega, by dsimp only; omega, by dsimp only; omega⟩, by dsimp only; omega, by dsimp only; omega, by dsimp only; omega, fun o ho => by have := hsz o ho; omega⟩
  have hx : Bytes8 ([43, 14, co, le, 255, nx, (os.length : Int)] ++ flatO os) := by
    intro x hx
    rcases List.mem_append.1 hx with hx | hx
    · simp at hx
      omega
    · exact flatO_bytes os (fun o ho => by have h1 := hid o ho; have h2 := hsz o ho; omega) x hx
  have hpo : parseO os.length (([43, 14, co, le, 255, nx, (os.length : Int)] ++ flatO os).drop 7) = some os := parseO_flat os
  refine p_ok hf (fun b off c w h => ?_) h hr
  have hdev : Calls Try.prog 26 #[.slice (some ⟨b, off, none⟩) (7 + used os) c, .int .i64 m] w fun e w' => DevGottrue co le nx os.length ([43, 14, co, le, 255, nx, (os.length : Int)] ++ flatO os) w e w' := by
    by_cases h7 : c = 7
    · exact pfl7_43_5 b off (7 + used os) c _ m _ _ co le nx os.length w h.1 hx (by omega) rfl h.2.1 (h.2.2 (by omega)) rfl rfl (by have := h.2.1; omega) h7 rfl rfl rfl rfl rfl rfl
    · exact pfl_43_5 b off (7 + used os) c _ m _ _ co le nx os.length w h.1 hx (by omega) rfl h.2.1 (h.2.2 (by omega)) rfl rfl (by omega) (by have := h.2.1; omega) rfl rfl rfl rfl rfl rfl
  refine hdev.mono fun e w' k => ?_
  obtain ⟨OA, ol, oc, ok, he, hb, hs, _⟩ := k
  obtain ⟨rfl, rfl, ho⟩ := hs os hpo
  exact ⟨none, 0, none, 0, OA, oc, he, ⟨own_none _ _ _, own_none _ _ _, own2_mono ho (Nat.le_add_right _ _)⟩, hb⟩
end

/-- What Bytes tells of a reply, wherever its lists lie, and that Parse reads the reply out of it. -/
def Backs (t : TV) (m : Int) : Prop := ∃ (n : Nat) (zs : List Int), 3 ≤ n ∧ n ≤ 253 ∧ Bytes8 zs ∧ zs.length = n ∧
  (∀ W BA bc WA wc OA oc, BRow W W.heap.size BA t.bl t.bs → Row .u16 W W.heap.size WA t.wl t.ws → OL W W.heap.size OA t.ol t.os → Calls Try.prog 7 #[t.agg BA bc WA wc OA oc] W fun e w' =>
    ∃ C cc, e = .returned (.tuple #[.slice (some ⟨C, 0, none⟩) n cc, .int .i64 0]) ∧ n ≤ cc ∧ Row .u8 w' w'.heap.size (some ⟨C, 0, none⟩) n zs ∧ Below W.heap.size W w') ∧
  ∀ b off c w, PIn zs n b off c w → TGot 8 (some ⟨b, off, none⟩) n c m t w

theorem own_told {w : World} {base : Nat} {C : Option Addr} {n cc : Nat} {zs : List Int} (h : w.ownsRow base 5 1 (.slice C n cc) n (zs.map (Value.int .u8))) (hn : 0 < n) : ∃ g, C = some ⟨g, 0, none⟩ ∧ n ≤ cc ∧ Row .u8 w w.heap.size (some ⟨g, 0, none⟩) n zs := by
  have hr := (own_row h).ints
  rcases h.2 with ⟨_, h0⟩ | ⟨g, cap, cur, e, _, _, hnc, _⟩
  · omega
  · injection e with e1 e2 e3
    subst e1 e3
    exact ⟨g, rfl, hnc, hr⟩
theorem whole_told {w : World} {g n : Nat} {zs : List Int} (h : Whole .u8 w g 5 zs) (hl : zs.length = n) : Row .u8 w w.heap.size (some ⟨g, 0, none⟩) n zs := by
  subst hl
  exact h.row

theorem flat_len (ws : List Int) : (flat ws).length = 2 * ws.length := by
  induction ws with
  | nil => rfl
  | cons x xs ih =>
    have e : flat (x :: xs) = be x ++ flat xs := rfl
    rw [e, List.length_append, ih]
    simp [be]
    omega

theorem fit0 : (decide (fitP ([] : List Ob))).toNat = 1 := by decide
section
variable {m : Int}

theorem backs_6 (at_ n v an orr : Int) (hw : WideT at_ n v an orr 0 0 0) (hr : ({ fn := 6, at_ := at_, q := n, v := v, an := an, orr := orr } : TV).right) : Backs ({ fn := 6, at_ := at_, q := n, v := v, an := an, orr := orr } : TV) m := by
  have hr2 := hr
  unfold TV.right tellP at hr2
  dsimp only at hr2
  have hq := hr2
  rcases hq with ⟨_, _, ⟨a0, a1⟩, hg, hs⟩ | ⟨hq, _⟩
  · unfold restT at hs
    unfold rangT at hg
    obtain rfl : n = 0 := by omega
    obtain rfl : an = 0 := by omega
    obtain rfl : orr = 0 := by omega
    refine ⟨5, [6, at_ / 256, at_ % 256, v / 256, v % 256], by omega, by omega, (by intro y hy; simp at hy; have := hw.v1; have := hw.v0; have := hw.d0; have := hw.d1; have := hw.o0; have := hw.o1; omega), rfl, fun W BA bc WA wc OA oc _ _ _ => (pbG_6 at_ 0 v 0 0 BA WA OA bc wc oc W hw (by have h := hr; unfold TV.right at h; dsimp only at h; rw [fit0] at h; exact h)).mono fun e w' h => ?_, back_6 at_ v a0 a1 hw.v0 hw.v1 hr⟩
    obtain ⟨g, he, hW, hg, hb⟩ := h
    exact ⟨g, 5, he, Nat.le_refl _, whole_told hW rfl, hb⟩
  · omega

theorem backs_15 (at_ n v an orr : Int) (hw : WideT at_ n v an orr 0 0 0) (hr : ({ fn := 15, at_ := at_, q := n, v := v, an := an, orr := orr } : TV).right) : Backs ({ fn := 15, at_ := at_, q := n, v := v, an := an, orr := orr } : TV) m := by
  have hr2 := hr
  unfold TV.right tellP at hr2
  dsimp only at hr2
  have hq := hr2
  rcases hq with ⟨_, _, ⟨a0, a1⟩, hg, hs⟩ | ⟨hq, _⟩
  · unfold restT at hs
    unfold rangT at hg
    obtain rfl : v = 0 := by omega
    obtain rfl : an = 0 := by omega
    obtain rfl : orr = 0 := by omega
    have hq1 : n ≤ kMostW 15 := by omega
    have hq3 : kMostW 15 ≤ 65535 := by decide
    have hq2 : n ≤ 65535 := by omega
    refine ⟨5, [15, at_ / 256, at_ % 256, n / 256, n % 256], by omega, by omega, (by intro y hy; simp at hy; have := hw.v1; have := hw.v0; have := hw.d0; have := hw.d1; have := hw.o0; have := hw.o1; omega), rfl, fun W BA bc WA wc OA oc _ _ _ => (pbG_15 at_ n 0 0 0 BA WA OA bc wc oc W hw (by have h := hr; unfold TV.right at h; dsimp only at h; rw [fit0] at h; exact h)).mono fun e w' h => ?_, back_15 at_ n a0 a1 (by omega) hq2 hr⟩
    obtain ⟨g, he, hW, hg, hb⟩ := h
    exact ⟨g, 5, he, Nat.le_refl _, whole_told hW rfl, hb⟩
  · omega

theorem backs_16 (at_ n v an orr : Int) (hw : WideT at_ n v an orr 0 0 0) (hr : ({ fn := 16, at_ := at_, q := n, v := v, an := an, orr := orr } : TV).right) : Backs ({ fn := 16, at_ := at_, q := n, v := v, an := an, orr := orr } : TV) m := by
  have hr2 := hr
  unfold TV.right tellP at hr2
  dsimp only at hr2
  have hq := hr2
  rcases hq with ⟨_, _, ⟨a0, a1⟩, hg, hs⟩ | ⟨hq, _⟩
  · unfold restT at hs
    unfold rangT at hg
    obtain rfl : v = 0 := by omega
    obtain rfl : an = 0 := by omega
    obtain rfl : orr = 0 := by omega
    have hq1 : n ≤ kMostW 16 := by omega
    have hq3 : kMostW 16 ≤ 65535 := by decide
    have hq2 : n ≤ 65535 := by omega
    refine ⟨5, [16, at_ / 256, at_ % 256, n / 256, n % 256], by omega, by omega, (by intro y hy; simp at hy; have := hw.v1; have := hw.v0; have := hw.d0; have := hw.d1; have := hw.o0; have := hw.o1; omega), rfl, fun W BA bc WA wc OA oc _ _ _ => (pbG_16 at_ n 0 0 0 BA WA OA bc wc oc W hw (by have h := hr; unfold TV.right at h; dsimp only at h; rw [fit0] at h; exact h)).mono fun e w' h => ?_, back_16 at_ n a0 a1 (by omega) hq2 hr⟩
    obtain ⟨g, he, hW, hg, hb⟩ := h
    exact ⟨g, 5, he, Nat.le_refl _, whole_told hW rfl, hb⟩
  · omega

theorem backs_22 (at_ n v an orr : Int) (hw : WideT at_ n v an orr 0 0 0) (hr : ({ fn := 22, at_ := at_, q := n, v := v, an := an, orr := orr } : TV).right) : Backs ({ fn := 22, at_ := at_, q := n, v := v, an := an, orr := orr } : TV) m := by
  have hr2 := hr
  unfold TV.right tellP at hr2
  dsimp only at hr2
  have hq := hr2
  rcases hq with ⟨_, _, ⟨a0, a1⟩, hg, hs⟩ | ⟨hq, _⟩
  · unfold restT at hs
    unfold rangT at hg
    obtain rfl : n = 0 := by omega
    obtain rfl : v = 0 := by omega
    refine ⟨7, [22, at_ / 256, at_ % 256, an / 256, an % 256, orr / 256, orr % 256], by omega, by omega, (by intro y hy; simp at hy; have := hw.v1; have := hw.v0; have := hw.d0; have := hw.d1; have := hw.o0; have := hw.o1; omega), rfl, fun W BA bc WA wc OA oc _ _ _ => (pbG_22 at_ 0 0 an orr BA WA OA bc wc oc W hw (by have h := hr; unfold TV.right at h; dsimp only at h; rw [fit0] at h; exact h)).mono fun e w' h => ?_, back_22 at_ an orr a0 a1 hw.d0 hw.d1 hw.o0 hw.o1 hr⟩
    obtain ⟨g, he, hW, hg, hb⟩ := h
    exact ⟨g, 7, he, Nat.le_refl _, whole_told hW rfl, hb⟩
  · omega

theorem backs_5 (at_ n v an orr : Int) (hw : WideT at_ n v an orr 0 0 0) (hr : ({ fn := 5, at_ := at_, q := n, v := v, an := an, orr := orr } : TV).right) : Backs ({ fn := 5, at_ := at_, q := n, v := v, an := an, orr := orr } : TV) m := by
  have hr2 := hr
  unfold TV.right tellP at hr2
  dsimp only at hr2
  have hq := hr2
  rcases hq with ⟨_, _, ⟨a0, a1⟩, hg, hs⟩ | ⟨hq, _⟩
  · unfold restT at hs
    unfold rangT at hg
    obtain rfl : n = 0 := by omega
    obtain rfl : an = 0 := by omega
    obtain rfl : orr = 0 := by omega
    have v0 := hw.v0
    rcases (by omega : v = 0 ∨ v = 1) with rfl | rfl
    · refine ⟨5, [5, at_ / 256, at_ % 256, 0, 0], by omega, by omega, (by intro y hy; simp at hy; omega), rfl, fun W BA bc WA wc OA oc _ _ _ => (pbG_5 at_ 0 0 0 0 BA WA OA bc wc oc W hw (by have h := hr; unfold TV.right at h; dsimp only at h; rw [fit0] at h; exact h)).mono fun e w' h => ?_, back_5_0 at_ a0 a1 hr⟩
      obtain ⟨g, he, hW, hg, hb⟩ := h
      exact ⟨g, 5, he, Nat.le_refl _, whole_told hW rfl, hb⟩
    · refine ⟨5, [5, at_ / 256, at_ % 256, 255, 0], by omega, by omega, (by intro y hy; simp at hy; omega), rfl, fun W BA bc WA wc OA oc _ _ _ => (pbG_5 at_ 0 1 0 0 BA WA OA bc wc oc W hw (by have h := hr; unfold TV.right at h; dsimp only at h; rw [fit0] at h; exact h)).mono fun e w' h => ?_, back_5_1 at_ a0 a1 hr⟩
      obtain ⟨g, he, hW, hg, hb⟩ := h
      exact ⟨g, 5, he, Nat.le_refl _, whole_told hW rfl, hb⟩
  · omega

theorem backs_1 (k : Nat) (bs : List Bool) (hb : bs.length = k) (hk : 1 ≤ k ∧ k ≤ 2000) (hr : ({ fn := 1, bl := k, bs := bs } : TV).right) : Backs ({ fn := 1, bl := k, bs := bs } : TV) (k : Int) := by
  have hn : nb k ≤ 250 ∧ 1 ≤ nb k := by unfold nb; omega
  refine ⟨2 + nb k, [1, ((nb k : Nat) : Int)] ++ pk bs k, by omega, by omega, ?_, ?_, fun W BA bc WA wc OA oc h1 _ _ => (pbL_1 k bs BA WA OA bc wc oc W hk h1).mono fun e w' h => ?_, back_1 k bs hb hk hr⟩
  · intro x hx
    rcases List.mem_append.1 hx with hx | hx
    · simp at hx
      omega
    · exact pk_bytes bs k x hx
  · rw [List.length_append, pk_length, hb]
    rfl
  · obtain ⟨n, C, cc, he, rfl, ho, hb2⟩ := h
    obtain ⟨g, rfl, hc, hrow⟩ := own_told ho (by omega)
    exact ⟨g, cc, he, hc, hrow, hb2⟩

theorem backs_2 (k : Nat) (bs : List Bool) (hb : bs.length = k) (hk : 1 ≤ k ∧ k ≤ 2000) (hr : ({ fn := 2, bl := k, bs := bs } : TV).right) : Backs ({ fn := 2, bl := k, bs := bs } : TV) (k : Int) := by
  have hn : nb k ≤ 250 ∧ 1 ≤ nb k := by unfold nb; omega
  refine ⟨2 + nb k, [2, ((nb k : Nat) : Int)] ++ pk bs k, by omega, by omega, ?_, ?_, fun W BA bc WA wc OA oc h1 _ _ => (pbL_2 k bs BA WA OA bc wc oc W hk h1).mono fun e w' h => ?_, back_2 k bs hb hk hr⟩
  · intro x hx
    rcases List.mem_append.1 hx with hx | hx
    · simp at hx
      omega
    · exact pk_bytes bs k x hx
  · rw [List.length_append, pk_length, hb]
    rfl
  · obtain ⟨n, C, cc, he, rfl, ho, hb2⟩ := h
    obtain ⟨g, rfl, hc, hrow⟩ := own_told ho (by omega)
    exact ⟨g, cc, he, hc, hrow, hb2⟩

theorem backs_3 (k : Nat) (ws : List Int) (hb : ws.length = k) (hw : Words ws) (hk : 1 ≤ k ∧ k ≤ 125) (hr : ({ fn := 3, wl := k, ws := ws } : TV).right) : Backs ({ fn := 3, wl := k, ws := ws } : TV) m := by
  refine ⟨2 + 2 * k, [3, ((2 * k : Nat) : Int)] ++ flat ws, by omega, by omega, ?_, ?_, fun W BA bc WA wc OA oc _ h2 _ => (pbL_3 k ws BA WA OA bc wc oc W hk h2 hw).mono fun e w' h => ?_, back_3 k ws hb hw hk hr⟩
  · intro x hx
    rcases List.mem_append.1 hx with hx | hx
    · simp at hx
      omega
    · exact flat_bytes ws hw x hx
  · rw [List.length_append, flat_len, hb]
    simp <;> omega
  · obtain ⟨n, C, cc, he, rfl, ho, hb2⟩ := h
    obtain ⟨g, rfl, hc, hrow⟩ := own_told ho (by omega)
    exact ⟨g, cc, he, hc, hrow, hb2⟩

theorem backs_4 (k : Nat) (ws : List Int) (hb : ws.length = k) (hw : Words ws) (hk : 1 ≤ k ∧ k ≤ 125) (hr : ({ fn := 4, wl := k, ws := ws } : TV).right) : Backs ({ fn := 4, wl := k, ws := ws } : TV) m := by
  refine ⟨2 + 2 * k, [4, ((2 * k : Nat) : Int)] ++ flat ws, by omega, by omega, ?_, ?_, fun W BA bc WA wc OA oc _ h2 _ => (pbL_4 k ws BA WA OA bc wc oc W hk h2 hw).mono fun e w' h => ?_, back_4 k ws hb hw hk hr⟩
  · intro x hx
    rcases List.mem_append.1 hx with hx | hx
    · simp at hx
      omega
    · exact flat_bytes ws hw x hx
  · rw [List.length_append, flat_len, hb]
    simp <;> omega
  · obtain ⟨n, C, cc, he, rfl, ho, hb2⟩ := h
    obtain ⟨g, rfl, hc, hrow⟩ := own_told ho (by omega)
    exact ⟨g, cc, he, hc, hrow, hb2⟩

theorem backs_23 (k : Nat) (ws : List Int) (hb : ws.length = k) (hw : Words ws) (hk : 1 ≤ k ∧ k ≤ 125) (hr : ({ fn := 23, wl := k, ws := ws } : TV).right) : Backs ({ fn := 23, wl := k, ws := ws } : TV) m := by
  refine ⟨2 + 2 * k, [23, ((2 * k : Nat) : Int)] ++ flat ws, by omega, by omega, ?_, ?_, fun W BA bc WA wc OA oc _ h2 _ => (pbL_23 k ws BA WA OA bc wc oc W hk h2 hw).mono fun e w' h => ?_, back_23 k ws hb hw hk hr⟩
  · intro x hx
    rcases List.mem_append.1 hx with hx | hx
    · simp at hx
      omega
    · exact flat_bytes ws hw x hx
  · rw [List.length_append, flat_len, hb]
    simp <;> omega
  · obtain ⟨n, C, cc, he, rfl, ho, hb2⟩ := h
    obtain ⟨g, rfl, hc, hrow⟩ := own_told ho (by omega)
    exact ⟨g, cc, he, hc, hrow, hb2⟩

theorem backs_43_0 (co le nx : Int) (os : List Ob) (hu : used os ≤ 246) (hid : ∀ o ∈ os, 0 ≤ o.1 ∧ o.1 ≤ 255) (c0 : 1 ≤ co ∧ co ≤ 4) (l0 : 0 ≤ le ∧ le ≤ 255) (x0 : 0 ≤ nx ∧ nx ≤ 255) (hr : ({ fn := 43, co := co, le := le, mo := false, nx := nx, ol := os.length, os := os } : TV).right) : Backs ({ fn := 43, co := co, le := le, mo := false, nx := nx, ol := os.length, os := os } : TV) m := by
  have hol : os.length ≤ 246 := Nat.le_trans (used_len os) hu
  refine ⟨7 + used os, [43, 14, co, le, 0, nx, (os.length : Int)] ++ flatO os, by omega, by omega, ?_, ?_, fun W BA bc WA wc OA oc _ _ h3 => (pbT_43 co le nx false 0 os BA WA OA bc wc os.length oc W rfl h3 ⟨hid, hu⟩ c0 l0 x0).mono fun e w' h => ?_, back_43_0 co le nx os hu hid (by omega) l0 x0 hr⟩
  · intro x hx
    rcases List.mem_append.1 hx with hx | hx
    · simp at hx
      omega
    · exact flatO_bytes os (fun o ho => by have h1 := hid o ho; have h2 := used_of os o ho; omega) x hx
  · rw [List.length_append, flatO_length]
    rfl
  · obtain ⟨n, C, cc, he, rfl, ho, hb2⟩ := h
    obtain ⟨g, rfl, hc, hrow⟩ := own_told ho (by omega)
    exact ⟨g, cc, he, hc, hrow, hb2⟩

theorem backs_43_5 (co le nx : Int) (os : List Ob) (hu : used os ≤ 246) (hid : ∀ o ∈ os, 0 ≤ o.1 ∧ o.1 ≤ 255) (c0 : 1 ≤ co ∧ co ≤ 4) (l0 : 0 ≤ le ∧ le ≤ 255) (x0 : 0 ≤ nx ∧ nx ≤ 255) (hr : ({ fn := 43, co := co, le := le, mo := true, nx := nx, ol := os.length, os := os } : TV).right) : Backs ({ fn := 43, co := co, le := le, mo := true, nx := nx, ol := os.length, os := os } : TV) m := by
  have hol : os.length ≤ 246 := Nat.le_trans (used_len os) hu
  refine ⟨7 + used os, [43, 14, co, le, 255, nx, (os.length : Int)] ++ flatO os, by omega, by omega, ?_, ?_, fun W BA bc WA wc OA oc _ _ h3 => (pbT_43 co le nx true 255 os BA WA OA bc wc os.length oc W rfl h3 ⟨hid, hu⟩ c0 l0 x0).mono fun e w' h => ?_, back_43_5 co le nx os hu hid (by omega) l0 x0 hr⟩
  · intro x hx
    rcases List.mem_append.1 hx with hx | hx
    · simp at hx
      omega
    · exact flatO_bytes os (fun o ho => by have h1 := hid o ho; have h2 := used_of os o ho; omega) x hx
  · rw [List.length_append, flatO_length]
    rfl
  · obtain ⟨n, C, cc, he, rfl, ho, hb2⟩ := h
    obtain ⟨g, rfl, hc, hrow⟩ := own_told ho (by omega)
    exact ⟨g, cc, he, hc, hrow, hb2⟩
end

theorem size_noughts (L : Nat) : (strOfNums (List.replicate L (0 : Int))).size = L := by simp [strOfNums, ByteArray.size]
theorem used_madeO (vs : List Int) : ∀ j, used (madeO vs j) ≤ 21 * j
  | 0 => by simp [madeO, used]
  | j + 1 => by
    have ih := used_madeO vs j
    have hs := size_noughts (vs.getD j 0 % 20).toNat
    have hm : (vs.getD j 0 % 20).toNat ≤ 19 := by omega
    rw [madeO_succ, used_append, used_cons]
    have h0 : used ([] : List Ob) = 0 := rfl
    dsimp only
    omega
theorem madeO_ids (vs : List Int) (j : Nat) (hj : j ≤ 9) : ∀ o ∈ madeO vs j, 0 ≤ o.1 ∧ o.1 ≤ 255 := by
  intro o ho
  obtain ⟨i, hi, rfl⟩ := List.mem_map.1 ho
  have := List.mem_range.1 hi
  dsimp only
  omega

/-- made answers one right reply, whatever the world; Bytes tells it, and Parse reads it back. -/
def MadeIs (k v : Int) (wn ln : Nat) (vs : List Int) (ls : List Bool) : Prop :=
  ∃ t : TV, t.right ∧ t.Fine ∧ Backs t (ln : Int) ∧ ∀ w WS wsc LS lc, Row .u16 w w.heap.size WS wn vs → BRow w w.heap.size LS ln ls → Calls Try.prog 6 #[.int .i64 k, .int .i64 v, .slice WS wn wsc, .slice LS ln lc] w (MadeOk t w)

theorem made_is (k v : Int) (wn ln : Nat) (vs : List Int) (ls : List Bool) (k0 : -9223372036854775808 ≤ k) (k1 : k ≤ 9223372036854775807) (v0 : -9223372036854775808 ≤ v) (v1 : v ≤ 9223372036854775807) (hvl : vs.length = wn) (hll : ls.length = ln) (hvs : Words vs) (hwn : 1 ≤ wn ∧ wn ≤ 125) (hln : 1 ≤ ln ∧ ln ≤ 200) : MadeIs k v wn ln vs ls := by
  obtain ⟨fn, at_, n, x, an, orr, bl, wl, ra, rn, co, ob, bs, ws, hG, hA⟩ := lask_is k v k0 k1 v0 v1
  have hr := hG.1
  have hw := hG.2.1
  have hE : (fn = 5 ∨ fn = 6 ∨ fn = 15 ∨ fn = 16 ∨ fn = 22) → ({ fn := fn, at_ := at_, q := n, v := x, an := an, orr := orr } : TV).right := fun h => by
    have h1 := ((echo_right fn at_ n x an orr bl wl ra rn co ob).2 ⟨hr, h⟩).1
    unfold TV.right
    dsimp only
    rw [fit0]
    exact h1
  have hW : WideT at_ n x an orr 0 0 0 := by
    have h1 := hw.a0; have h2 := hw.a1; have h3 := hw.n0; have h4 := hw.n1; have h5 := hw.v0; have h6 := hw.v1; have h7 := hw.x0; have h8 := hw.x1; have h9 := hw.o0; have h10 := hw.o1
    constructor <;> omega
  have hF : ∀ f : Int, ({ fn := f, at_ := at_, q := n, v := x, an := an, orr := orr } : TV).Fine := fun f => ⟨hW, by dsimp only; omega, by dsimp only; omega, by dsimp only; omega, fun o ho => by cases ho⟩
  have hfit := hr.2.2.2.2
  unfold fitsP at hfit
  rcases kinds fn with rfl | rfl | rfl | rfl | rfl | rfl | rfl | rfl | rfl | rfl | rfl | hno
  · have hr1 : ({ fn := 1, bl := ln, bs := ls } : TV).right := .inl ⟨rfl, (by dsimp only; decide), by dsimp only; omega, by unfold rangT; dsimp only; omega, by unfold restT; dsimp only; simp⟩
    exact ⟨({ fn := 1, bl := ln, bs := ls } : TV), hr1, ⟨⟨by dsimp only; omega, by dsimp only; omega, by dsimp only; omega, by dsimp only; omega, by dsimp only; omega, by dsimp only; omega, by dsimp only; omega, by dsimp only; omega, by dsimp only; omega, by dsimp only; omega, by dsimp only; omega, by dsimp only; omega, by dsimp only; omega, by dsimp only; omega, by dsimp only; omega, by dsimp only; omega⟩, by dsimp only; omega, by dsimp only; omega, by dsimp only; omega, fun o ho => by cases ho⟩, backs_1 ln ls hll (by omega) hr1, fun w WS wsc LS lc h1 h2 => made_1 k v WS LS wn wsc ln lc vs ls at_ n x an orr bl wl ra rn co ob bs ws w hG hA h1 h2⟩
  · have hr1 : ({ fn := 2, bl := ln, bs := ls } : TV).right := .inl ⟨rfl, (by dsimp only; decide), by dsimp only; omega, by unfold rangT; dsimp only; omega, by unfold restT; dsimp only; simp⟩
    exact ⟨({ fn := 2, bl := ln, bs := ls } : TV), hr1, ⟨⟨by dsimp only; omega, by dsimp only; omega, by dsimp only; omega, by dsimp only; omega, by dsimp only; omega, by dsimp only; omega, by dsimp only; omega, by dsimp only; omega, by dsimp only; omega, by dsimp only; omega, by dsimp only; omega, by dsimp only; omega, by dsimp only; omega, by dsimp only; omega, by dsimp only; omega, by dsimp only; omega⟩, by dsimp only; omega, by dsimp only; omega, by dsimp only; omega, fun o ho => by cases ho⟩, backs_2 ln ls hll (by omega) hr1, fun w WS wsc LS lc h1 h2 => made_2 k v WS LS wn wsc ln lc vs ls at_ n x an orr bl wl ra rn co ob bs ws w hG hA h1 h2⟩
  · have hr1 : ({ fn := 3, wl := wn, ws := vs } : TV).right := .inl ⟨rfl, (by dsimp only; decide), by dsimp only; omega, by unfold rangT; dsimp only; omega, by unfold restT; dsimp only; simp⟩
    exact ⟨({ fn := 3, wl := wn, ws := vs } : TV), hr1, ⟨⟨by dsimp only; omega, by dsimp only; omega, by dsimp only; omega, by dsimp only; omega, by dsimp only; omega, by dsimp only; omega, by dsimp only; omega, by dsimp only; omega, by dsimp only; omega, by dsimp only; omega, by dsimp only; omega, by dsimp only; omega, by dsimp only; omega, by dsimp only; omega, by dsimp only; omega, by dsimp only; omega⟩, by dsimp only; omega, by dsimp only; omega, by dsimp only; omega, fun o ho => by cases ho⟩, backs_3 wn vs hvl hvs (by omega) hr1, fun w WS wsc LS lc h1 h2 => made_3 k v WS LS wn wsc ln lc vs ls at_ n x an orr bl wl ra rn co ob bs ws w hG hA h1 h2⟩
  · have hr1 : ({ fn := 4, wl := wn, ws := vs } : TV).right := .inl ⟨rfl, (by dsimp only; decide), by dsimp only; omega, by unfold rangT; dsimp only; omega, by unfold restT; dsimp only; simp⟩
    exact ⟨({ fn := 4, wl := wn, ws := vs } : TV), hr1, ⟨⟨by dsimp only; omega, by dsimp only; omega, by dsimp only; omega, by dsimp only; omega, by dsimp only; omega, by dsimp only; omega, by dsimp only; omega, by dsimp only; omega, by dsimp only; omega, by dsimp only; omega, by dsimp only; omega, by dsimp only; omega, by dsimp only; omega, by dsimp only; omega, by dsimp only; omega, by dsimp only; omega⟩, by dsimp only; omega, by dsimp only; omega, by dsimp only; omega, fun o ho => by cases ho⟩, backs_4 wn vs hvl hvs (by omega) hr1, fun w WS wsc LS lc h1 h2 => made_4 k v WS LS wn wsc ln lc vs ls at_ n x an orr bl wl ra rn co ob bs ws w hG hA h1 h2⟩
  · exact ⟨_, hE (by omega), hF 5, backs_5 at_ n x an orr hW (hE (by omega)), fun w WS wsc LS lc h1 h2 => made_5 k v WS LS wn wsc ln lc vs ls at_ n x an orr bl wl ra rn co ob bs ws w hG hA h1 h2⟩
  · exact ⟨_, hE (by omega), hF 6, backs_6 at_ n x an orr hW (hE (by omega)), fun w WS wsc LS lc h1 h2 => made_6 k v WS LS wn wsc ln lc vs ls at_ n x an orr bl wl ra rn co ob bs ws w hG hA h1 h2⟩
  · exact ⟨_, hE (by omega), hF 15, backs_15 at_ n x an orr hW (hE (by omega)), fun w WS wsc LS lc h1 h2 => made_15 k v WS LS wn wsc ln lc vs ls at_ n x an orr bl wl ra rn co ob bs ws w hG hA h1 h2⟩
  · exact ⟨_, hE (by omega), hF 16, backs_16 at_ n x an orr hW (hE (by omega)), fun w WS wsc LS lc h1 h2 => made_16 k v WS LS wn wsc ln lc vs ls at_ n x an orr bl wl ra rn co ob bs ws w hG hA h1 h2⟩
  · exact ⟨_, hE (by omega), hF 22, backs_22 at_ n x an orr hW (hE (by omega)), fun w WS wsc LS lc h1 h2 => made_22 k v WS LS wn wsc ln lc vs ls at_ n x an orr bl wl ra rn co ob bs ws w hG hA h1 h2⟩
  · have hr1 : ({ fn := 23, wl := wn, ws := vs } : TV).right := .inl ⟨rfl, (by dsimp only; decide), by dsimp only; omega, by unfold rangT; dsimp only; omega, by unfold restT; dsimp only; simp⟩
    exact ⟨({ fn := 23, wl := wn, ws := vs } : TV), hr1, ⟨⟨by dsimp only; omega, by dsimp only; omega, by dsimp only; omega, by dsimp only; omega, by dsimp only; omega, by dsimp only; omega, by dsimp only; omega, by dsimp only; omega, by dsimp only; omega, by dsimp only; omega, by dsimp only; omega, by dsimp only; omega, by dsimp only; omega, by dsimp only; omega, by dsimp only; omega, by dsimp only; omega⟩, by dsimp only; omega, by dsimp only; omega, by dsimp only; omega, fun o ho => by cases ho⟩, backs_23 wn vs hvl hvs (by omega) hr1, fun w WS wsc LS lc h1 h2 => made_23 k v WS LS wn wsc ln lc vs ls at_ n x an orr bl wl ra rn co ob bs ws w hG hA h1 h2⟩
  · obtain ⟨J, hJ⟩ : ∃ J, J = min wn 9 := ⟨_, rfl⟩
    obtain ⟨nx, hnx⟩ := Int.eq_ofNat_of_zero_le (Int.emod_nonneg (k.tdiv 3) (show (256 : Int) ≠ 0 by omega))
    have hnx2 : nx < 256 := by have := Int.emod_lt_of_pos (k.tdiv 3) (show (0 : Int) < 256 by omega); omega
    have hu : used (madeO vs J) ≤ 246 := by have := used_madeO vs J; omega
    have hid := madeO_ids vs J (by omega)
    have hco : 1 ≤ co ∧ co ≤ 4 := by omega
    have hfp : (decide (fitP (madeO vs J))).toNat = 1 := by rw [show decide (fitP (madeO vs J)) = true from decide_eq_true ⟨hid, hu⟩]; rfl
    have hsz : ∀ o ∈ madeO vs J, o.2.size ≤ 1000000 := fun o ho => by have := used_of _ o ho; omega
    cases hmo : (k % 3 == 0)
    · have ht : ({ fn := 43, co := co, le := 129, mo := false, nx := (nx : Int), ol := J, os := madeO vs J } : TV) = ({ fn := 43, co := co, le := 129, mo := false, nx := (nx : Int), ol := (madeO vs J).length, os := madeO vs J } : TV) := by rw [madeO_length]
      have hr1 : ({ fn := 43, co := co, le := 129, mo := false, nx := (nx : Int), ol := (madeO vs J).length, os := madeO vs J } : TV).right := .inl ⟨rfl, (by dsimp only; decide), by dsimp only; omega, by unfold rangT; dsimp only; rw [hfp]; omega, by unfold restT; dsimp only; simp⟩
      refine ⟨({ fn := 43, co := co, le := 129, mo := false, nx := (nx : Int), ol := (madeO vs J).length, os := madeO vs J } : TV), hr1, ⟨⟨by dsimp only; omega, by dsimp only; omega, by dsimp only; omega, by dsimp only; omega, by dsimp only; omega, by dsimp only; omega, by dsimp only; omega, by dsimp only; omega, by dsimp only; omega, by dsimp only; omega, by dsimp only; omega, by dsimp only; omega, by dsimp only; omega, by dsimp only; omega, by dsimp only; omega, by dsimp only; omega⟩, by dsimp only; omega, by dsimp only; omega, by dsimp only; rw [madeO_length]; omega, hsz⟩, backs_43_0 co 129 (nx : Int) (madeO vs J) hu hid hco (by omega) (by omega) hr1, fun w WS wsc LS lc h1 h2 => ?_⟩
      rw [← ht]
      exact made_43 k v WS LS wn wsc ln lc vs ls at_ n x an orr bl wl ra rn co ob bs ws w hG hA h1 h2 k0 k1 hvs J hJ false hmo nx hnx
    · have ht : ({ fn := 43, co := co, le := 129, mo := true, nx := (nx : Int), ol := J, os := madeO vs J } : TV) = ({ fn := 43, co := co, le := 129, mo := true, nx := (nx : Int), ol := (madeO vs J).length, os := madeO vs J } : TV) := by rw [madeO_length]
      have hr1 : ({ fn := 43, co := co, le := 129, mo := true, nx := (nx : Int), ol := (madeO vs J).length, os := madeO vs J } : TV).right := .inl ⟨rfl, (by dsimp only; decide), by dsimp only; omega, by unfold rangT; dsimp only; rw [hfp]; omega, by unfold restT; dsimp only; simp⟩
      refine ⟨({ fn := 43, co := co, le := 129, mo := true, nx := (nx : Int), ol := (madeO vs J).length, os := madeO vs J } : TV), hr1, ⟨⟨by dsimp only; omega, by dsimp only; omega, by dsimp only; omega, by dsimp only; omega, by dsimp only; omega, by dsimp only; omega, by dsimp only; omega, by dsimp only; omega, by dsimp only; omega, by dsimp only; omega, by dsimp only; omega, by dsimp only; omega, by dsimp only; omega, by dsimp only; omega, by dsimp only; omega, by dsimp only; omega⟩, by dsimp only; omega, by dsimp only; omega, by dsimp only; rw [madeO_length]; omega, hsz⟩, backs_43_5 co 129 (nx : Int) (madeO vs J) hu hid hco (by omega) (by omega) hr1, fun w WS wsc LS lc h1 h2 => ?_⟩
      rw [← ht]
      exact made_43 k v WS LS wn wsc ln lc vs ls at_ n x an orr bl wl ra rn co ob bs ws w hG hA h1 h2 k0 k1 hvs J hJ true hmo nx hnx
  · have := hno.known
    rw [hr.1] at this
    cases this

theorem back_parts (k v : Int) (wn ln : Nat) (vs : List Int) (ls : List Bool) (k0 : -9223372036854775808 ≤ k) (k1 : k ≤ 9223372036854775807) (v0 : -9223372036854775808 ≤ v) (v1 : v ≤ 9223372036854775807) (hvl : vs.length = wn) (hll : ls.length = ln) (hvs : Words vs) (hwn : 1 ≤ wn ∧ wn ≤ 125) (hln : 1 ≤ ln ∧ ln ≤ 200) :
    ∃ (fn ex : Int) (bl wl : Nat) (at_ q v2 an orr co le : Int) (mo : Bool) (nx : Int) (ol : Nat) (bs : List Bool) (ws : List Int) (os : List Ob) (L : Nat) (E : List Int), bl ≤ 100000 ∧ wl ≤ 100000 ∧ ol ≤ 100000 ∧ 3 ≤ L ∧ L ≤ 253 ∧ Bytes8 E ∧ E.length = L ∧
      (∀ w WS wsc LS lc, Row .u16 w w.heap.size WS wn vs → BRow w w.heap.size LS ln ls → Calls Try.prog 6 #[.int .i64 k, .int .i64 v, .slice WS wn wsc, .slice LS ln lc] w fun e w' =>
        ∃ BA bc WA wc OA oc, e = .returned (.agg #[.int .i64 fn, .int .i64 ex, .slice BA bl bc, .slice WA wl wc, .int .i64 at_, .int .i64 q, .int .u16 v2, .int .u16 an, .int .u16 orr, .int .i64 co, .int .i64 le, .bool mo, .int .i64 nx, .slice OA ol oc]) ∧ BRow w' w'.heap.size BA bl bs ∧ Row .u16 w' w'.heap.size WA wl ws ∧ OL w' w'.heap.size OA ol os ∧ Below w.heap.size w w') ∧
      (∀ W BA bc WA wc OA oc, BRow W W.heap.size BA bl bs → Row .u16 W W.heap.size WA wl ws → OL W W.heap.size OA ol os → Calls Try.prog 7 #[.agg #[.int .i64 fn, .int .i64 ex, .slice BA bl bc, .slice WA wl wc, .int .i64 at_, .int .i64 q, .int .u16 v2, .int .u16 an, .int .u16 orr, .int .i64 co, .int .i64 le, .bool mo, .int .i64 nx, .slice OA ol oc]] W fun e w' =>
        ∃ C cc, e = .returned (.tuple #[.slice (some ⟨C, 0, none⟩) L cc, .int .i64 0]) ∧ L ≤ cc ∧ Row .u8 w' w'.heap.size (some ⟨C, 0, none⟩) L E ∧ Below W.heap.size W w') ∧
      (∀ g c w, Row .u8 w w.heap.size (some ⟨g, 0, none⟩) L E → L ≤ c → TRes 8 (some ⟨g, 0, none⟩) L c (ln : Int) fn ex bl wl at_ q v2 an orr co le mo nx ol bs ws os 0 w) ∧
      ∀ W BA bc WA wc OA oc, BRow W W.heap.size BA bl bs → Row .u16 W W.heap.size WA wl ws → OL W W.heap.size OA ol os → Calls Try.prog 9 #[.agg #[.int .i64 fn, .int .i64 ex, .slice BA bl bc, .slice WA wl wc, .int .i64 at_, .int .i64 q, .int .u16 v2, .int .u16 an, .int .u16 orr, .int .i64 co, .int .i64 le, .bool mo, .int .i64 nx, .slice OA ol oc]] W fun e w' => e = .returned (.bool true) ∧ Below W.heap.size W w' := by
  obtain ⟨t, hr, hf, ⟨L, E, h3, h253, hx, hl, hb, hp⟩, hm⟩ := made_is k v wn ln vs ls k0 k1 v0 v1 hvl hll hvs hwn hln
  exact ⟨t.fn, t.ex, t.bl, t.wl, t.at_, t.q, t.v, t.an, t.orr, t.co, t.le, t.mo, t.nx, t.ol, t.bs, t.ws, t.os, L, E, hf.bl, hf.wl, hf.ol, h3, h253, hx, hl, hm, hb, fun g c w hrow hc => res_got (hp g 0 c w ⟨hrow, hc, by omega⟩),
    fun W BA bc WA wc OA oc _ _ h => ptr_any t.fn t.ex t.bl t.wl t.at_ t.q t.v t.an t.orr t.co t.le t.mo t.nx t.ol BA WA OA bc wc oc W _ true hf.wide (fits_any OA t.ol oc t.os W _ h hf.ol hf.sizes rfl) (decide_eq_true hr)⟩

end Go.Proofs.Ytielfekkonflfaa
