/- Joined: PB2 PB3 PB4 Awake6b. -/
import Derived.Test.YtielfekkonflfaaJTellBack3
import Derived.Test.YtielfekkonflfaaJTellBack5
import Derived.Test.YtielfekkonflfaaJTellBack7
import Derived.Test.YtielfekkonflfaaJTellBack9
import Derived.Test.YtielfekkonflfaaJTellBack8
import Derived.Test.YtielfekkonflfaaJTellBack10
import Derived.Test.YtielfekkonflfaaJTellBack14
namespace Go.Proofs.Ytielfekkonflfaa
open Go.ChangeShapes Go.WideShapes Go.ChangeAt Go.RowKit
set_option linter.unusedVariables false
set_option linter.unusedSimpArgs false

theorem ok_of_plain {F : FuncId} {A : Option Addr} {n c : Nat} {m : Int} {w : World} (t : TV) (h1 : t.bl = 0) (h2 : t.wl = 0) (h3 : t.ol = 0) (h4 : t.bs = []) (h5 : t.ws = []) (h6 : t.os = [])
    (h : Calls Try.prog F #[.slice A n c, .int .i64 m] w fun e w' => e = .returned (.tuple #[t.agg none 0 none 0 none 0, .bool true]) ∧ Below w.heap.size w w') : TOk F A n c m t w :=
  h.mono fun e w' h => ⟨none, 0, none, 0, none, 0, h.1, rd_nil t _ _ h1 h2 h3 h4 h5 h6, h.2⟩
theorem bad_of_plain {F : FuncId} {A : Option Addr} {n c : Nat} {m : Int} {w : World} (t : TV)
    (h : Calls Try.prog F #[.slice A n c, .int .i64 m] w fun e w' => e = .returned (.tuple #[t.agg none 0 none 0 none 0, .bool false]) ∧ Below w.heap.size w w') : TBad F A n c m t w :=
  h.mono fun e w' h => ⟨none, 0, none, 0, none, t.ol, 0, h.1, h.2⟩
theorem fine0 (fn ex : Int) : ({ fn := fn, ex := ex } : TV).Fine := ⟨⟨by dsimp only; omega, by dsimp only; omega, by dsimp only; omega, by dsimp only; omega, by dsimp only; omega, by dsimp only; omega, by dsimp only; omega, by dsimp only; omega, by dsimp only; omega, by dsimp only; omega, by dsimp only; omega, by dsimp only; omega, by dsimp only; omega, by dsimp only; omega, by dsimp only; omega, by dsimp only; omega⟩, by dsimp only; omega, by dsimp only; omega, by dsimp only; omega, fun o ho => by cases ho⟩

section
variable {zs : List Int} {n : Nat} {m : Int}

theorem p_few (hn : n < 2) : ∀ b off c w, PIn zs n b off c w → TBad 26 (some ⟨b, off, none⟩) n c m {} w := fun b off c w _ => bad_of_plain _ (pfT_few (some ⟨b, off, none⟩) n c m w hn)
theorem p_len (sz : Int) (hs : 2 ≤ n → ∀ b off c w, PIn zs n b off c w → Calls Try.prog 51 #[.slice (some ⟨b, off, none⟩) n c] w fun e w' => e = .returned (.int .i64 sz) ∧ w = w') (hne : (n : Int) ≠ sz) :
    ∀ b off c w, PIn zs n b off c w → TBad 26 (some ⟨b, off, none⟩) n c m {} w := by
  intro b off c w h
  by_cases h2 : n < 2
  · exact p_few h2 b off c w h
  · exact bad_of_plain _ (pfl_len (some ⟨b, off, none⟩) n c m sz w (by omega) (fun W hW => hs (by omega) b off c W (h.below hW)) (by simpa using hne))

theorem agree_6 (hx : Bytes8 zs) (hn : n ≤ 300) (h1 : 1 ≤ n) (h0 : zs.getD 0 0 = 6) : Agree zs n m := by
  have h8 : zs.getD 0 0 < 128 := by omega
  obtain ⟨p, hp⟩ : ∃ p, gotW zs n 1 = p := ⟨_, rfl⟩
  obtain ⟨q, hq⟩ : ∃ q, gotW zs n 3 = q := ⟨_, rfl⟩
  obtain ⟨t, ht⟩ : ∃ t, gotW zs n 5 = t := ⟨_, rfl⟩
  have bp := gotW_bounds hx n 1
  rw [hp] at bp
  have bq := gotW_bounds hx n 3
  rw [hq] at bq
  have bt := gotW_bounds hx n 5
  rw [ht] at bt
  have hf : ({ fn := 6, at_ := p, v := q } : TV).Fine := ⟨⟨by dsimp only; omega, by dsimp only; omega, by dsimp only; omega, by dsimp only; omega, by dsimp only; omega, by dsimp only; omega, by dsimp only; omega, by dsimp only; omega, by dsimp only; omega, by dsimp only; omega, by dsimp only; omega, by dsimp only; omega, by dsimp only; omega, by dsimp only; omega, by dsimp only; omega, by dsimp only; omega⟩, by dsimp only; omega, by dsimp only; omega, by dsimp only; omega, fun o ho => by cases ho⟩
  by_cases h5 : n = 5
  · exact agree_ok ({ fn := 6, at_ := p, v := q } : TV) h1 h8 hf (fun b off c w h => ok_of_plain ({ fn := 6, at_ := p, v := q } : TV) rfl rfl rfl rfl rfl rfl (pfl_6 b off n c zs m p q w h.1 hx (by omega) h0 h.2.1 (h.2.2 (by omega)) hp hq h5))
      (fun b off c w h => ok_of_plain ({ fn := 6, at_ := p, v := q } : TV) rfl rfl rfl rfl rfl rfl (hrd_6 b off n c zs m p q true w h.1 hx (by omega) h1 h0 h.2 hp hq (by simp; omega)))
  · exact agree_bad {} ({ fn := 6, at_ := p, v := q } : TV) h1 h8 (p_len 5 (fun h2 b off c w h => psz_pair (some ⟨b, off, none⟩) n c zs w 6 h.1 (by omega) h2 h0 (by omega)) (by omega))
      (fun b off c w h => bad_of_plain ({ fn := 6, at_ := p, v := q } : TV) (hrd_6 b off n c zs m p q false w h.1 hx (by omega) h1 h0 h.2 hp hq (by simp; omega)))

theorem agree_15 (hx : Bytes8 zs) (hn : n ≤ 300) (h1 : 1 ≤ n) (h0 : zs.getD 0 0 = 15) : Agree zs n m := by
  have h8 : zs.getD 0 0 < 128 := by omega
  obtain ⟨p, hp⟩ : ∃ p, gotW zs n 1 = p := ⟨_, rfl⟩
  obtain ⟨q, hq⟩ : ∃ q, gotW zs n 3 = q := ⟨_, rfl⟩
  obtain ⟨t, ht⟩ : ∃ t, gotW zs n 5 = t := ⟨_, rfl⟩
  have bp := gotW_bounds hx n 1
  rw [hp] at bp
  have bq := gotW_bounds hx n 3
  rw [hq] at bq
  have bt := gotW_bounds hx n 5
  rw [ht] at bt
  have hf : ({ fn := 15, at_ := p, q := q } : TV).Fine := ⟨⟨by dsimp only; omega, by dsimp only; omega, by dsimp only; omega, by dsimp only; omega, by dsimp only; omega, by dsimp only; omega, by dsimp only; omega, by dsimp only; omega, by dsimp only; omega, by dsimp only; omega, by dsimp only; omega, by dsimp only; omega, by dsimp only; omega, by dsimp only; omega, by dsimp only; omega, by dsimp only; omega⟩, by dsimp only; omega, by dsimp only; omega, by dsimp only; omega, fun o ho => by cases ho⟩
  by_cases h5 : n = 5
  · exact agree_ok ({ fn := 15, at_ := p, q := q } : TV) h1 h8 hf (fun b off c w h => ok_of_plain ({ fn := 15, at_ := p, q := q } : TV) rfl rfl rfl rfl rfl rfl (pfl_15 b off n c zs m p q w h.1 hx (by omega) h0 h.2.1 (h.2.2 (by omega)) hp hq h5))
      (fun b off c w h => ok_of_plain ({ fn := 15, at_ := p, q := q } : TV) rfl rfl rfl rfl rfl rfl (hrd_15 b off n c zs m p q true w h.1 hx (by omega) h1 h0 h.2 hp hq (by simp; omega)))
  · exact agree_bad {} ({ fn := 15, at_ := p, q := q } : TV) h1 h8 (p_len 5 (fun h2 b off c w h => psz_pair (some ⟨b, off, none⟩) n c zs w 15 h.1 (by omega) h2 h0 (by omega)) (by omega))
      (fun b off c w h => bad_of_plain ({ fn := 15, at_ := p, q := q } : TV) (hrd_15 b off n c zs m p q false w h.1 hx (by omega) h1 h0 h.2 hp hq (by simp; omega)))

theorem agree_16 (hx : Bytes8 zs) (hn : n ≤ 300) (h1 : 1 ≤ n) (h0 : zs.getD 0 0 = 16) : Agree zs n m := by
  have h8 : zs.getD 0 0 < 128 := by omega
  obtain ⟨p, hp⟩ : ∃ p, gotW zs n 1 = p := ⟨_, rfl⟩
  obtain ⟨q, hq⟩ : ∃ q, gotW zs n 3 = q := ⟨_, rfl⟩
  obtain ⟨t, ht⟩ : ∃ t, gotW zs n 5 = t := ⟨_, rfl⟩
  have bp := gotW_bounds hx n 1
  rw [hp] at bp
  have bq := gotW_bounds hx n 3
  rw [hq] at bq
  have bt := gotW_bounds hx n 5
  rw [ht] at bt
  have hf : ({ fn := 16, at_ := p, q := q } : TV).Fine := ⟨⟨by dsimp only; omega, by dsimp only; omega, by dsimp only; omega, by dsimp only; omega, by dsimp only; omega, by dsimp only; omega, by dsimp only; omega, by dsimp only; omega, by dsimp only; omega, by dsimp only; omega, by dsimp only; omega, by dsimp only; omega, by dsimp only; omega, by dsimp only; omega, by dsimp only; omega, by dsimp only; omega⟩, by dsimp only; omega, by dsimp only; omega, by dsimp only; omega, fun o ho => by cases ho⟩
  by_cases h5 : n = 5
  · exact agree_ok ({ fn := 16, at_ := p, q := q } : TV) h1 h8 hf (fun b off c w h => ok_of_plain ({ fn := 16, at_ := p, q := q } : TV) rfl rfl rfl rfl rfl rfl (pfl_16 b off n c zs m p q w h.1 hx (by omega) h0 h.2.1 (h.2.2 (by omega)) hp hq h5))
      (fun b off c w h => ok_of_plain ({ fn := 16, at_ := p, q := q } : TV) rfl rfl rfl rfl rfl rfl (hrd_16 b off n c zs m p q true w h.1 hx (by omega) h1 h0 h.2 hp hq (by simp; omega)))
  · exact agree_bad {} ({ fn := 16, at_ := p, q := q } : TV) h1 h8 (p_len 5 (fun h2 b off c w h => psz_pair (some ⟨b, off, none⟩) n c zs w 16 h.1 (by omega) h2 h0 (by omega)) (by omega))
      (fun b off c w h => bad_of_plain ({ fn := 16, at_ := p, q := q } : TV) (hrd_16 b off n c zs m p q false w h.1 hx (by omega) h1 h0 h.2 hp hq (by simp; omega)))

theorem agree_22 (hx : Bytes8 zs) (hn : n ≤ 300) (h1 : 1 ≤ n) (h0 : zs.getD 0 0 = 22) : Agree zs n m := by
  have h8 : zs.getD 0 0 < 128 := by omega
  obtain ⟨p, hp⟩ : ∃ p, gotW zs n 1 = p := ⟨_, rfl⟩
  obtain ⟨q, hq⟩ : ∃ q, gotW zs n 3 = q := ⟨_, rfl⟩
  obtain ⟨t, ht⟩ : ∃ t, gotW zs n 5 = t := ⟨_, rfl⟩
  have bp := gotW_bounds hx n 1
  rw [hp] at bp
  have bq := gotW_bounds hx n 3
  rw [hq] at bq
  have bt := gotW_bounds hx n 5
  rw [ht] at bt
  have hf : ({ fn := 22, at_ := p, an := q, orr := t } : TV).Fine := ⟨⟨by dsimp only; omega, by dsimp only; omega, by dsimp only; omega, by dsimp only; omega, by dsimp only; omega, by dsimp only; omega, by dsimp only; omega, by dsimp only; omega, by dsimp only; omega, by dsimp only; omega, by dsimp only; omega, by dsimp only; omega, by dsimp only; omega, by dsimp only; omega, by dsimp only; omega, by dsimp only; omega⟩, by dsimp only; omega, by dsimp only; omega, by dsimp only; omega, fun o ho => by cases ho⟩
  by_cases h5 : n = 7
  · exact agree_ok ({ fn := 22, at_ := p, an := q, orr := t } : TV) h1 h8 hf (fun b off c w h => ok_of_plain ({ fn := 22, at_ := p, an := q, orr := t } : TV) rfl rfl rfl rfl rfl rfl (pfl_22 b off n c zs m p q t w h.1 hx (by omega) h0 h.2.1 (h.2.2 (by omega)) hp hq h5 ht))
      (fun b off c w h => ok_of_plain ({ fn := 22, at_ := p, an := q, orr := t } : TV) rfl rfl rfl rfl rfl rfl (hrd_22 b off n c zs m p q t true w h.1 hx (by omega) h1 h0 h.2 hp hq ht (by simp; omega)))
  · exact agree_bad {} ({ fn := 22, at_ := p, an := q, orr := t } : TV) h1 h8 (p_len 7 (fun h2 b off c w h => psz_22 (some ⟨b, off, none⟩) n c zs w h.1 (by omega) h2 h0) (by omega))
      (fun b off c w h => bad_of_plain ({ fn := 22, at_ := p, an := q, orr := t } : TV) (hrd_22 b off n c zs m p q t false w h.1 hx (by omega) h1 h0 h.2 hp hq ht (by simp; omega)))

theorem agree_5 (hx : Bytes8 zs) (hn : n ≤ 300) (h1 : 1 ≤ n) (h0 : zs.getD 0 0 = 5) : Agree zs n m := by
  have h8 : zs.getD 0 0 < 128 := by omega
  obtain ⟨p, hp⟩ : ∃ p, gotW zs n 1 = p := ⟨_, rfl⟩
  obtain ⟨q, hq⟩ : ∃ q, gotW zs n 3 = q := ⟨_, rfl⟩
  have bp := gotW_bounds hx n 1
  rw [hp] at bp
  by_cases h5 : n = 5
  · by_cases hq0 : q = 0
    · have hf : ({ fn := 5, at_ := p } : TV).Fine := ⟨⟨by dsimp only; omega, by dsimp only; omega, by dsimp only; omega, by dsimp only; omega, by dsimp only; omega, by dsimp only; omega, by dsimp only; omega, by dsimp only; omega, by dsimp only; omega, by dsimp only; omega, by dsimp only; omega, by dsimp only; omega, by dsimp only; omega, by dsimp only; omega, by dsimp only; omega, by dsimp only; omega⟩, by dsimp only; omega, by dsimp only; omega, by dsimp only; omega, fun o ho => by cases ho⟩
      exact agree_ok ({ fn := 5, at_ := p } : TV) h1 h8 hf (fun b off c w h => ok_of_plain ({ fn := 5, at_ := p } : TV) rfl rfl rfl rfl rfl rfl (pfl_5_0 b off n c zs m p q w h.1 hx (by omega) h0 h.2.1 (h.2.2 (by omega)) hp hq h5 hq0))
        (fun b off c w h => ok_of_plain ({ fn := 5, at_ := p } : TV) rfl rfl rfl rfl rfl rfl (hrd_5_0 b off n c zs m p q w h.1 hx (by omega) h1 h0 h.2 hp hq (by simp; omega) hq0))
    · by_cases hq1 : q = 65280
      · have hf : ({ fn := 5, at_ := p, v := 1 } : TV).Fine := ⟨⟨by dsimp only; omega, by dsimp only; omega, by dsimp only; omega, by dsimp only; omega, by dsimp only; omega, by dsimp only; omega, by dsimp only; omega, by dsimp only; omega, by dsimp only; omega, by dsimp only; omega, by dsimp only; omega, by dsimp only; omega, by dsimp only; omega, by dsimp only; omega, by dsimp only; omega, by dsimp only; omega⟩, by dsimp only; omega, by dsimp only; omega, by dsimp only; omega, fun o ho => by cases ho⟩
        exact agree_ok ({ fn := 5, at_ := p, v := 1 } : TV) h1 h8 hf (fun b off c w h => ok_of_plain ({ fn := 5, at_ := p, v := 1 } : TV) rfl rfl rfl rfl rfl rfl (pfl_5_1 b off n c zs m p q w h.1 hx (by omega) h0 h.2.1 (h.2.2 (by omega)) hp hq h5 hq1))
          (fun b off c w h => ok_of_plain ({ fn := 5, at_ := p, v := 1 } : TV) rfl rfl rfl rfl rfl rfl (hrd_5_1 b off n c zs m p q w h.1 hx (by omega) h1 h0 h.2 hp hq (by simp; omega) hq1))
      · exact agree_bad ({ fn := 5, at_ := p } : TV) ({ fn := 5, at_ := p } : TV) h1 h8 (fun b off c w h => bad_of_plain ({ fn := 5, at_ := p } : TV) (pfl_5_no b off n c zs m p q w h.1 hx (by omega) h0 h.2.1 (h.2.2 (by omega)) hp hq h5 hq0 hq1))
          (fun b off c w h => bad_of_plain ({ fn := 5, at_ := p } : TV) (hrd_5_no b off n c zs m p q w h.1 hx (by omega) h1 h0 h.2 hp hq (by simp; omega) hq0 hq1))
  · by_cases hq1 : q = 65280
    · exact agree_bad {} ({ fn := 5, at_ := p, v := 1 } : TV) h1 h8 (p_len 5 (fun h2 b off c w h => psz_pair (some ⟨b, off, none⟩) n c zs w 5 h.1 (by omega) h2 h0 (by omega)) (by omega))
        (fun b off c w h => bad_of_plain ({ fn := 5, at_ := p, v := 1 } : TV) (hrd_5_len1 b off n c zs m p q w h.1 hx (by omega) h1 h0 h.2 hp hq (by simp; omega) hq1))
    · exact agree_bad {} ({ fn := 5, at_ := p } : TV) h1 h8 (p_len 5 (fun h2 b off c w h => psz_pair (some ⟨b, off, none⟩) n c zs w 5 h.1 (by omega) h2 h0 (by omega)) (by omega))
        (fun b off c w h => bad_of_plain ({ fn := 5, at_ := p } : TV) (hrd_5_len0 b off n c zs m p q w h.1 hx (by omega) h1 h0 h.2 hp hq (by simp; omega) hq1))

theorem agree_none (f : Int) (hx : Bytes8 zs) (hn : n ≤ 300) (h1 : 1 ≤ n) (h0 : zs.getD 0 0 = f) (hf : NoFn f) (hf0 : 0 ≤ f) (h8' : f < 128) : Agree zs n m := by
  have h8 : zs.getD 0 0 < 128 := by omega
  have hr : ¬ ({ fn := f } : TV).right := by
    unfold TV.right tellP
    rw [hf.known]
    rintro (⟨_, h, _⟩ | ⟨h, _⟩)
    · cases h
    · revert h; dsimp only; omega
  have hD : ∀ bb, ((n : Int) == 5) = bb → ∀ b off c w, DIn zs n b off c w → _ := fun bb hb b off c w (h : DIn zs n b off c w) => hrd_no b off n c zs m f bb w h.1 hx (by omega) h1 h0 h.2 hf hf0 h8' hb
  by_cases h5 : n = 5
  · exact agree_notD ({ fn := f } : TV) {} h1 h8 (fine0 f 0) hr (p_len 2 (fun h2 b off c w h => psz_no (some ⟨b, off, none⟩) n c zs w f h.1 hx (by omega) h2 h0 hf) (by omega))
      (fun b off c w h => ok_of_plain ({ fn := f } : TV) rfl rfl rfl rfl rfl rfl (hD true (by simp; omega) b off c w h))
  · have hDb : ∀ b off c w, DIn zs n b off c w → TBad 36 (some ⟨b, off, none⟩) n c m ({ fn := f } : TV) w := fun b off c w h => bad_of_plain ({ fn := f } : TV) (hD false (by simp; omega) b off c w h)
    by_cases h2 : n = 2
    · exact agree_not ({ fn := f } : TV) ({ fn := f } : TV) h1 h8 (fine0 f 0) hr (fun b off c w h => ok_of_plain ({ fn := f } : TV) rfl rfl rfl rfl rfl rfl (pfl_no b off n c zs m _ _ f w h.1 hx (by omega) h0 h.2.1 (h.2.2 (by omega)) rfl rfl h2 hf hf0 h8')) hDb
    · exact agree_bad {} ({ fn := f } : TV) h1 h8 (p_len 2 (fun h2 b off c w h => psz_no (some ⟨b, off, none⟩) n c zs w f h.1 hx (by omega) h2 h0 hf) (by omega)) hDb

theorem agree_exc (f : Int) (hx : Bytes8 zs) (hn : n ≤ 300) (h1 : 1 ≤ n) (h0 : zs.getD 0 0 = f) (h8 : 128 ≤ f) : Agree zs n m := by
  have hf255 : f ≤ 255 := by have := (hx.at_ 0).2; change zs.getD 0 0 ≤ 255 at this; omega
  have hf : NoFn f := ⟨by omega, by omega, by omega, by omega, by omega, by omega, by omega, by omega, by omega, by omega, by omega⟩
  have hc0 : ∀ {b off c : Nat} {w : World}, DIn zs n b off c w → w.cell? ⟨b, off, none⟩ = some (.int .u8 f) := fun h => by have := (h.cell h1).2 0 (by omega); rwa [Nat.add_zero, h0] at this
  by_cases h2 : n = 2
  · obtain ⟨x, hx1⟩ : ∃ x, zs.getD 1 0 = x := ⟨_, rfl⟩
    have bx : 0 ≤ x ∧ x ≤ 255 := by rw [← hx1]; exact hx.at_ 1
    have hc1 : ∀ {b off c : Nat} {w : World}, DIn zs n b off c w → w.cell? ⟨b, off + 1, none⟩ = some (.int .u8 x) := fun h => by have := (h.cell h1).2 1 (by omega); rwa [hx1] at this
    have hP : ∀ b off c w, PIn zs n b off c w → _ := fun b off c w (h : PIn zs n b off c w) => pfT_exc (some ⟨b, off, none⟩) n c zs m w f x h.1 hx h2 h0 h8 hx1
    by_cases hv : x = 1 ∨ x = 2 ∨ x = 3 ∨ x = 4 ∨ x = 6
    · have hr : ({ fn := f - 128, ex := x } : TV).right := .inr ⟨hv, by dsimp only; omega, by unfold zeroT; simp⟩
      have hPk : ∀ b off c w, PIn zs n b off c w → TOk 26 (some ⟨b, off, none⟩) n c m ({ fn := f - 128, ex := x } : TV) w := fun b off c w h => ok_of_plain ({ fn := f - 128, ex := x } : TV) rfl rfl rfl rfl rfl rfl (by
        have := hP b off c w h
        rw [show decide (x ≠ 0) = true from decide_eq_true (by omega)] at this
        exact this)
      exact .inr ⟨{ fn := f - 128, ex := x }, fine0 _ _, fun _ _ _ _ h => p_ok (fine0 _ _) hPk h hr, fun b off c w h => (rpx_yes b off f x n c m w (h.cell h1).1 (hc0 h) h8 hf255 (hc1 h) h2 bx.1 bx.2 hv).mono fun e w' k => ⟨none, 0, none, 0, none, 0, k.1, rd_nil _ _ _ rfl rfl rfl rfl rfl rfl, k.2⟩⟩
    · have hR : ∀ b off c w, DIn zs n b off c w → TZero 12 (some ⟨b, off, none⟩) n c m w := fun b off c w h => rpx_no b off f x n c m w (h.cell h1).1 (hc0 h) h8 hf255 (hc1 h) h2 bx.1 bx.2 hv
      by_cases hx0 : x = 0
      · refine .inl ⟨fun _ _ _ _ h => p_bad (t := { fn := f - 128, ex := x }) (fun b off c w h => bad_of_plain ({ fn := f - 128, ex := x } : TV) ?_) h, hR⟩
        have := hP b off c w h
        rw [show decide (x ≠ 0) = false from decide_eq_false (by omega)] at this
        exact this
      · have hr : ¬ ({ fn := f - 128, ex := x } : TV).right := by
          unfold TV.right tellP
          rintro (⟨h, _⟩ | ⟨h, _⟩)
          · exact hx0 h
          · exact hv h
        refine .inl ⟨fun _ _ _ _ h => p_not (t := { fn := f - 128, ex := x }) (fine0 _ _) (fun b off c w h => ok_of_plain ({ fn := f - 128, ex := x } : TV) rfl rfl rfl rfl rfl rfl ?_) h hr, hR⟩
        have := hP b off c w h
        rw [show decide (x ≠ 0) = true from decide_eq_true hx0] at this
        exact this
  · exact .inl ⟨fun _ _ _ _ h => p_bad (p_len 2 (fun h2 b off c w h => psz_no (some ⟨b, off, none⟩) n c zs w f h.1 hx (by omega) h2 h0 hf) (by omega)) h, fun b off c w h => rpx_len b off f n c m w (h.cell h1).1 (hc0 h) h8 hf255 h1 h2⟩
end

theorem wordsAt_behind (zs : List Int) (l k : Nat) : wordsAt (zs.drop l) 0 k = wordsAt zs l k := by
  unfold wordsAt
  apply List.map_congr_left
  intro i _
  unfold wordAt
  simp only [List.getD_eq_getElem?_getD, List.getElem?_drop, Nat.zero_add, Nat.add_assoc]
theorem size_nums (zs : List Int) : (strOfNums zs).size = zs.length := by
  simp [strOfNums, ByteArray.size]
theorem parseO_sizes : ∀ (n : Nat) (zs : List Int) (os : List Ob), parseO n zs = some os → ∀ o ∈ os, o.2.size ≤ zs.length := by
  intro n
  induction n with
  | zero =>
    intro zs os h o ho
    unfold parseO at h
    split at h
    · injection h with h
      subst h
      cases ho
    · cases h
  | succ n ih =>
    intro zs os h o ho
    unfold parseO at h
    split at h
    · cases h
    · split at h
      · cases h
      · rw [Option.map_eq_some_iff] at h
        obtain ⟨os2, h2, rfl⟩ := h
        rcases List.mem_cons.1 ho with rfl | ho
        · dsimp only
          rw [size_nums, List.length_take, List.length_drop]
          omega
        · have := ih _ _ h2 o ho
          rw [List.length_drop] at this
          omega

section
variable {zs : List Int} {n : Nat} {m : Int}

theorem agree_1 (hx : Bytes8 zs) (hn : n ≤ 300) (h1 : 1 ≤ n) (h0 : zs.getD 0 0 = 1) (m0 : -9223372036854775808 ≤ m) (m1 : m ≤ 9223372036854775807) : Agree zs n m := by
  have h8 : zs.getD 0 0 < 128 := by omega
  obtain ⟨T, hT⟩ : ∃ T : Nat, zs.getD 1 0 = (T : Int) := Int.eq_ofNat_of_zero_le (hx.at_ 1).1
  have hT255 : T ≤ 255 := by have := (hx.at_ 1).2; change zs.getD 1 0 ≤ 255 at this; omega
  by_cases hn1 : n = 1
  · exact agree_bad {} ({ fn := 1 } : TV) h1 h8 (p_few (by omega)) (fun b off c w h => bad_of_plain ({ fn := 1 } : TV) (hrd_few_1 b off n c zs m w h.1 hx (by omega) h1 h0 h.2 hn1))
  · have h2n : 2 ≤ n := by omega
    by_cases hnt : n = 2 + T
    · have heq : (T : Int) = (n : Int) - 2 := by omega
      -- the document's refusals
      have hD1 : m < 1 → ∀ b off c w, DIn zs n b off c w → TBad 36 (some ⟨b, off, none⟩) n c m ({ fn := 1 } : TV) w := fun hm b off c w h => bad_of_plain ({ fn := 1 } : TV) (hrd_lo_1 b off n c zs m (T : Int) w h.1 hx (by omega) h1 h0 h.2 h2n hT heq hm)
      have hD2 : ¬ m < 1 → 2000 < m → ∀ b off c w, DIn zs n b off c w → TBad 36 (some ⟨b, off, none⟩) n c m ({ fn := 1 } : TV) w := fun hm1 hm b off c w h => bad_of_plain ({ fn := 1 } : TV) (hrd_hi_1 b off n c zs m (T : Int) w h.1 hx (by omega) h1 h0 h.2 h2n hT heq hm1 hm)
      by_cases hno : m < 0 ∨ nbI m ≠ (T : Int)
      · have hP : ∀ b off c w, PIn zs n b off c w → TBad 26 (some ⟨b, off, none⟩) n c m ({ fn := 1 } : TV) w := fun b off c w h => bad_of_plain ({ fn := 1 } : TV) (pfl_b_no_1 b off n c zs m _ _ T w h.1 hx (by omega) h0 h.2.1 (h.2.2 (by omega)) rfl rfl hT hnt m0 m1 hno)
        by_cases hm1 : m < 1
        · exact agree_bad ({ fn := 1 } : TV) ({ fn := 1 } : TV) h1 h8 hP (hD1 hm1)
        · by_cases hm2 : 2000 < m
          · exact agree_bad ({ fn := 1 } : TV) ({ fn := 1 } : TV) h1 h8 hP (hD2 hm1 hm2)
          · exact agree_bad ({ fn := 1 } : TV) ({ fn := 1 } : TV) h1 h8 hP (fun b off c w h => bad_of_plain ({ fn := 1 } : TV) (hrd_no_1 b off n c zs m (T : Int) w h.1 hx (by omega) h1 h0 h.2 h2n hT heq hm1 hm2 (by rcases hno with h | h; omega; rw [show n - 2 = T by omega]; exact h)))
      · have hm0 : 0 ≤ m := by omega
        obtain ⟨k, rfl⟩ := Int.eq_ofNat_of_zero_le hm0
        have hkn : T = nb k := by
          have h : nbI (k : Int) = (T : Int) := by omega
          rw [nbI_nat] at h
          omega
        have hk : k ≤ 2040 := by unfold nb at hkn; omega
        have hf : ({ fn := 1, bl := k, bs := unb (zs.drop 2) k } : TV).Fine := ⟨⟨by dsimp only; omega, by dsimp only; omega, by dsimp only; omega, by dsimp only; omega, by dsimp only; omega, by dsimp only; omega, by dsimp only; omega, by dsimp only; omega, by dsimp only; omega, by dsimp only; omega, by dsimp only; omega, by dsimp only; omega, by dsimp only; omega, by dsimp only; omega, by dsimp only; omega, by dsimp only; omega⟩, by dsimp only; omega, by dsimp only; omega, by dsimp only; omega, fun o ho => by cases ho⟩
        have hP : ∀ b off c w, PIn zs n b off c w → TOk 26 (some ⟨b, off, none⟩) n c (k : Int) ({ fn := 1, bl := k, bs := unb (zs.drop 2) k } : TV) w := fun b off c w h => (pfl_b_yes_1 b off n c zs (k : Int) _ _ T k w h.1 hx (by omega) h0 h.2.1 (h.2.2 (by omega)) rfl rfl hT hnt rfl hkn).mono fun e w' h => by
          obtain ⟨G, g, he, ho, hb⟩ := h
          exact ⟨G, g, none, 0, none, 0, he, ⟨ho, own_none _ _ _, own2_none _ _ _⟩, hb⟩
        by_cases hm1 : (k : Int) < 1
        · refine agree_not _ ({ fn := 1 } : TV) h1 h8 hf ?_ hP (hD1 hm1)
          unfold TV.right tellP rangT
          dsimp only
          omega
        · by_cases hm2 : 2000 < (k : Int)
          · refine agree_not _ ({ fn := 1 } : TV) h1 h8 hf ?_ hP (hD2 hm1 hm2)
            unfold TV.right tellP rangT
            dsimp only
            omega
          · exact agree_ok _ h1 h8 hf hP (fun b off c w h => (hrd_yes_1 b off n c zs (k : Int) (T : Int) k w h.1 hx (by omega) h1 h0 h.2 h2n hT heq hm1 hm2 rfl (by omega)).mono fun e w' h => by
              obtain ⟨G, g, he, ho, hb⟩ := h
              exact ⟨G, g, none, 0, none, 0, he, ⟨ho, own_none _ _ _, own2_none _ _ _⟩, hb⟩)
    · exact agree_bad {} ({ fn := 1 } : TV) h1 h8 (p_len (2 + (T : Int)) (fun h2 b off c w h => psz_list (some ⟨b, off, none⟩) n c zs w 1 (T : Int) h.1 hx (by omega) h2 h0 (by omega) hT) (by omega)) (fun b off c w h => bad_of_plain ({ fn := 1 } : TV) (hrd_len_1 b off n c zs m (T : Int) w h.1 hx (by omega) h1 h0 h.2 h2n hT (by omega)))

theorem agree_2 (hx : Bytes8 zs) (hn : n ≤ 300) (h1 : 1 ≤ n) (h0 : zs.getD 0 0 = 2) (m0 : -9223372036854775808 ≤ m) (m1 : m ≤ 9223372036854775807) : Agree zs n m := by
  have h8 : zs.getD 0 0 < 128 := by omega
  obtain ⟨T, hT⟩ : ∃ T : Nat, zs.getD 1 0 = (T : Int) := Int.eq_ofNat_of_zero_le (hx.at_ 1).1
  have hT255 : T ≤ 255 := by have := (hx.at_ 1).2; change zs.getD 1 0 ≤ 255 at this; omega
  by_cases hn1 : n = 1
  · exact agree_bad {} ({ fn := 2 } : TV) h1 h8 (p_few (by omega)) (fun b off c w h => bad_of_plain ({ fn := 2 } : TV) (hrd_few_2 b off n c zs m w h.1 hx (by omega) h1 h0 h.2 hn1))
  · have h2n : 2 ≤ n := by omega
    by_cases hnt : n = 2 + T
    · have heq : (T : Int) = (n : Int) - 2 := by omega
      -- the document's refusals
      have hD1 : m < 1 → ∀ b off c w, DIn zs n b off c w → TBad 36 (some ⟨b, off, none⟩) n c m ({ fn := 2 } : TV) w := fun hm b off c w h => bad_of_plain ({ fn := 2 } : TV) (hrd_lo_2 b off n c zs m (T : Int) w h.1 hx (by omega) h1 h0 h.2 h2n hT heq hm)
      have hD2 : ¬ m < 1 → 2000 < m → ∀ b off c w, DIn zs n b off c w → TBad 36 (some ⟨b, off, none⟩) n c m ({ fn := 2 } : TV) w := fun hm1 hm b off c w h => bad_of_plain ({ fn := 2 } : TV) (hrd_hi_2 b off n c zs m (T : Int) w h.1 hx (by omega) h1 h0 h.2 h2n hT heq hm1 hm)
      by_cases hno : m < 0 ∨ nbI m ≠ (T : Int)
      · have hP : ∀ b off c w, PIn zs n b off c w → TBad 26 (some ⟨b, off, none⟩) n c m ({ fn := 2 } : TV) w := fun b off c w h => bad_of_plain ({ fn := 2 } : TV) (pfl_b_no_2 b off n c zs m _ _ T w h.1 hx (by omega) h0 h.2.1 (h.2.2 (by omega)) rfl rfl hT hnt m0 m1 hno)
        by_cases hm1 : m < 1
        · exact agree_bad ({ fn := 2 } : TV) ({ fn := 2 } : TV) h1 h8 hP (hD1 hm1)
        · by_cases hm2 : 2000 < m
          · exact agree_bad ({ fn := 2 } : TV) ({ fn := 2 } : TV) h1 h8 hP (hD2 hm1 hm2)
          · exact agree_bad ({ fn := 2 } : TV) ({ fn := 2 } : TV) h1 h8 hP (fun b off c w h => bad_of_plain ({ fn := 2 } : TV) (hrd_no_2 b off n c zs m (T : Int) w h.1 hx (by omega) h1 h0 h.2 h2n hT heq hm1 hm2 (by rcases hno with h | h; omega; rw [show n - 2 = T by omega]; exact h)))
      · have hm0 : 0 ≤ m := by omega
        obtain ⟨k, rfl⟩ := Int.eq_ofNat_of_zero_le hm0
        have hkn : T = nb k := by
          have h : nbI (k : Int) = (T : Int) := by omega
          rw [nbI_nat] at h
          omega
        have hk : k ≤ 2040 := by unfold nb at hkn; omega
        have hf : ({ fn := 2, bl := k, bs := unb (zs.drop 2) k } : TV).Fine := ⟨⟨by dsimp only; omega, by dsimp only; omega, by dsimp only; omega, by dsimp only; omega, by dsimp only; omega, by dsimp only; omega, by dsimp only; omega, by dsimp only; omega, by dsimp only; omega, by dsimp only; omega, by dsimp only; omega, by dsimp only; omega, by dsimp only; omega, by dsimp only; omega, by dsimp only; omega, by dsimp only; omega⟩, by dsimp only; omega, by dsimp only; omega, by dsimp only; omega, fun o ho => by cases ho⟩
        have hP : ∀ b off c w, PIn zs n b off c w → TOk 26 (some ⟨b, off, none⟩) n c (k : Int) ({ fn := 2, bl := k, bs := unb (zs.drop 2) k } : TV) w := fun b off c w h => (pfl_b_yes_2 b off n c zs (k : Int) _ _ T k w h.1 hx (by omega) h0 h.2.1 (h.2.2 (by omega)) rfl rfl hT hnt rfl hkn).mono fun e w' h => by
          obtain ⟨G, g, he, ho, hb⟩ := h
          exact ⟨G, g, none, 0, none, 0, he, ⟨ho, own_none _ _ _, own2_none _ _ _⟩, hb⟩
        by_cases hm1 : (k : Int) < 1
        · refine agree_not _ ({ fn := 2 } : TV) h1 h8 hf ?_ hP (hD1 hm1)
          unfold TV.right tellP rangT
          dsimp only
          omega
        · by_cases hm2 : 2000 < (k : Int)
          · refine agree_not _ ({ fn := 2 } : TV) h1 h8 hf ?_ hP (hD2 hm1 hm2)
            unfold TV.right tellP rangT
            dsimp only
            omega
          · exact agree_ok _ h1 h8 hf hP (fun b off c w h => (hrd_yes_2 b off n c zs (k : Int) (T : Int) k w h.1 hx (by omega) h1 h0 h.2 h2n hT heq hm1 hm2 rfl (by omega)).mono fun e w' h => by
              obtain ⟨G, g, he, ho, hb⟩ := h
              exact ⟨G, g, none, 0, none, 0, he, ⟨ho, own_none _ _ _, own2_none _ _ _⟩, hb⟩)
    · exact agree_bad {} ({ fn := 2 } : TV) h1 h8 (p_len (2 + (T : Int)) (fun h2 b off c w h => psz_list (some ⟨b, off, none⟩) n c zs w 2 (T : Int) h.1 hx (by omega) h2 h0 (by omega) hT) (by omega)) (fun b off c w h => bad_of_plain ({ fn := 2 } : TV) (hrd_len_2 b off n c zs m (T : Int) w h.1 hx (by omega) h1 h0 h.2 h2n hT (by omega)))

theorem agree_3 (hx : Bytes8 zs) (hn : n ≤ 300) (h1 : 1 ≤ n) (h0 : zs.getD 0 0 = 3) : Agree zs n m := by
  have h8 : zs.getD 0 0 < 128 := by omega
  obtain ⟨T, hT⟩ : ∃ T : Nat, zs.getD 1 0 = (T : Int) := Int.eq_ofNat_of_zero_le (hx.at_ 1).1
  have hT255 : T ≤ 255 := by have := (hx.at_ 1).2; change zs.getD 1 0 ≤ 255 at this; omega
  by_cases hn1 : n = 1
  · exact agree_bad {} ({ fn := 3 } : TV) h1 h8 (p_few (by omega)) (fun b off c w h => bad_of_plain ({ fn := 3 } : TV) (hrd_few_3 b off n c zs m w h.1 hx (by omega) h1 h0 h.2 hn1))
  · have h2n : 2 ≤ n := by omega
    by_cases hnt : n = 2 + T
    · have heq : (T : Int) = (n : Int) - 2 := by omega
      by_cases hodd : T % 2 = 1
      · exact agree_bad ({ fn := 3 } : TV) ({ fn := 3 } : TV) h1 h8 (fun b off c w h => bad_of_plain ({ fn := 3 } : TV) (pfl_w_no_3 b off n c zs m _ _ T w h.1 hx (by omega) h0 h.2.1 (h.2.2 (by omega)) rfl rfl hT hnt hodd))
          (fun b off c w h => bad_of_plain ({ fn := 3 } : TV) (hrw_no_3 b off n c zs m (T : Int) w h.1 hx (by omega) h1 h0 h.2 h2n hT heq (by omega)))
      · obtain ⟨k, hk⟩ : ∃ k, T = 2 * k := ⟨T / 2, by omega⟩
        have hf : ({ fn := 3, wl := k, ws := wordsAt zs 2 k } : TV).Fine := ⟨⟨by dsimp only; omega, by dsimp only; omega, by dsimp only; omega, by dsimp only; omega, by dsimp only; omega, by dsimp only; omega, by dsimp only; omega, by dsimp only; omega, by dsimp only; omega, by dsimp only; omega, by dsimp only; omega, by dsimp only; omega, by dsimp only; omega, by dsimp only; omega, by dsimp only; omega, by dsimp only; omega⟩, by dsimp only; omega, by dsimp only; omega, by dsimp only; omega, fun o ho => by cases ho⟩
        exact agree_ok _ h1 h8 hf (fun b off c w h => (pfl_w_yes_3 b off n c zs m _ _ T k w h.1 hx (by omega) h0 h.2.1 (h.2.2 (by omega)) rfl rfl hT hnt hk).mono fun e w' h => by
            obtain ⟨G, g, he, ho, hb⟩ := h
            rw [wordsAt_behind] at ho
            exact ⟨none, 0, G, g, none, 0, he, ⟨own_none _ _ _, ho, own2_none _ _ _⟩, hb⟩)
          (fun b off c w h => (hrw_yes_3 b off n c zs m (T : Int) k w h.1 hx (by omega) h1 h0 h.2 h2n hT heq (by omega)).mono fun e w' h => by
            obtain ⟨G, g, he, ho, hb⟩ := h
            exact ⟨none, 0, G, g, none, 0, he, ⟨own_none _ _ _, ho, own2_none _ _ _⟩, hb⟩)
    · exact agree_bad {} ({ fn := 3 } : TV) h1 h8 (p_len (2 + (T : Int)) (fun h2 b off c w h => psz_list (some ⟨b, off, none⟩) n c zs w 3 (T : Int) h.1 hx (by omega) h2 h0 (by omega) hT) (by omega)) (fun b off c w h => bad_of_plain ({ fn := 3 } : TV) (hrd_len_3 b off n c zs m (T : Int) w h.1 hx (by omega) h1 h0 h.2 h2n hT (by omega)))

theorem agree_4 (hx : Bytes8 zs) (hn : n ≤ 300) (h1 : 1 ≤ n) (h0 : zs.getD 0 0 = 4) : Agree zs n m := by
  have h8 : zs.getD 0 0 < 128 := by omega
  obtain ⟨T, hT⟩ : ∃ T : Nat, zs.getD 1 0 = (T : Int) := Int.eq_ofNat_of_zero_le (hx.at_ 1).1
  have hT255 : T ≤ 255 := by have := (hx.at_ 1).2; change zs.getD 1 0 ≤ 255 at this; omega
  by_cases hn1 : n = 1
  · exact agree_bad {} ({ fn := 4 } : TV) h1 h8 (p_few (by omega)) (fun b off c w h => bad_of_plain ({ fn := 4 } : TV) (hrd_few_4 b off n c zs m w h.1 hx (by omega) h1 h0 h.2 hn1))
  · have h2n : 2 ≤ n := by omega
    by_cases hnt : n = 2 + T
    · have heq : (T : Int) = (n : Int) - 2 := by omega
      by_cases hodd : T % 2 = 1
      · exact agree_bad ({ fn := 4 } : TV) ({ fn := 4 } : TV) h1 h8 (fun b off c w h => bad_of_plain ({ fn := 4 } : TV) (pfl_w_no_4 b off n c zs m _ _ T w h.1 hx (by omega) h0 h.2.1 (h.2.2 (by omega)) rfl rfl hT hnt hodd))
          (fun b off c w h => bad_of_plain ({ fn := 4 } : TV) (hrw_no_4 b off n c zs m (T : Int) w h.1 hx (by omega) h1 h0 h.2 h2n hT heq (by omega)))
      · obtain ⟨k, hk⟩ : ∃ k, T = 2 * k := ⟨T / 2, by omega⟩
        have hf : ({ fn := 4, wl := k, ws := wordsAt zs 2 k } : TV).Fine := ⟨⟨by dsimp only; omega, by dsimp only; omega, by dsimp only; omega, by dsimp only; omega, by dsimp only; omega, by dsimp only; omega, by dsimp only; omega, by dsimp only; omega, by dsimp only; omega, by dsimp only; omega, by dsimp only; omega, by dsimp only; omega, by dsimp only; omega, by dsimp only; omega, by dsimp only; omega, by dsimp only; omega⟩, by dsimp only; omega, by dsimp only; omega, by dsimp only; omega, fun o ho => by cases ho⟩
        exact agree_ok _ h1 h8 hf (fun b off c w h => (pfl_w_yes_4 b off n c zs m _ _ T k w h.1 hx (by omega) h0 h.2.1 (h.2.2 (by omega)) rfl rfl hT hnt hk).mono fun e w' h => by
            obtain ⟨G, g, he, ho, hb⟩ := h
            rw [wordsAt_behind] at ho
            exact ⟨none, 0, G, g, none, 0, he, ⟨own_none _ _ _, ho, own2_none _ _ _⟩, hb⟩)
          (fun b off c w h => (hrw_yes_4 b off n c zs m (T : Int) k w h.1 hx (by omega) h1 h0 h.2 h2n hT heq (by omega)).mono fun e w' h => by
            obtain ⟨G, g, he, ho, hb⟩ := h
            exact ⟨none, 0, G, g, none, 0, he, ⟨own_none _ _ _, ho, own2_none _ _ _⟩, hb⟩)
    · exact agree_bad {} ({ fn := 4 } : TV) h1 h8 (p_len (2 + (T : Int)) (fun h2 b off c w h => psz_list (some ⟨b, off, none⟩) n c zs w 4 (T : Int) h.1 hx (by omega) h2 h0 (by omega) hT) (by omega)) (fun b off c w h => bad_of_plain ({ fn := 4 } : TV) (hrd_len_4 b off n c zs m (T : Int) w h.1 hx (by omega) h1 h0 h.2 h2n hT (by omega)))

theorem agree_23 (hx : Bytes8 zs) (hn : n ≤ 300) (h1 : 1 ≤ n) (h0 : zs.getD 0 0 = 23) : Agree zs n m := by
  have h8 : zs.getD 0 0 < 128 := by omega
  obtain ⟨T, hT⟩ : ∃ T : Nat, zs.getD 1 0 = (T : Int) := Int.eq_ofNat_of_zero_le (hx.at_ 1).1
  have hT255 : T ≤ 255 := by have := (hx.at_ 1).2; change zs.getD 1 0 ≤ 255 at this; omega
  by_cases hn1 : n = 1
  · exact agree_bad {} ({ fn := 23 } : TV) h1 h8 (p_few (by omega)) (fun b off c w h => bad_of_plain ({ fn := 23 } : TV) (hrd_few_23 b off n c zs m w h.1 hx (by omega) h1 h0 h.2 hn1))
  · have h2n : 2 ≤ n := by omega
    by_cases hnt : n = 2 + T
    · have heq : (T : Int) = (n : Int) - 2 := by omega
      by_cases hodd : T % 2 = 1
      · exact agree_bad ({ fn := 23 } : TV) ({ fn := 23 } : TV) h1 h8 (fun b off c w h => bad_of_plain ({ fn := 23 } : TV) (pfl_w_no_23 b off n c zs m _ _ T w h.1 hx (by omega) h0 h.2.1 (h.2.2 (by omega)) rfl rfl hT hnt hodd))
          (fun b off c w h => bad_of_plain ({ fn := 23 } : TV) (hrw_no_23 b off n c zs m (T : Int) w h.1 hx (by omega) h1 h0 h.2 h2n hT heq (by omega)))
      · obtain ⟨k, hk⟩ : ∃ k, T = 2 * k := ⟨T / 2, by omega⟩
        have hf : ({ fn := 23, wl := k, ws := wordsAt zs 2 k } : TV).Fine := ⟨⟨by dsimp only; omega, by dsimp only; omega, by dsimp only; omega, by dsimp only; omega, by dsimp only; omega, by dsimp only; omega, by dsimp only; omega, by dsimp only; omega, by dsimp only; omega, by dsimp only; omega, by dsimp only; omega, by dsimp only; omega, by dsimp only; omega, by dsimp only; omega, by dsimp only; omega, by dsimp only; omega⟩, by dsimp only; omega, by dsimp only; omega, by dsimp only; omega, fun o ho => by cases ho⟩
        exact agree_ok _ h1 h8 hf (fun b off c w h => (pfl_w_yes_23 b off n c zs m _ _ T k w h.1 hx (by omega) h0 h.2.1 (h.2.2 (by omega)) rfl rfl hT hnt hk).mono fun e w' h => by
            obtain ⟨G, g, he, ho, hb⟩ := h
            rw [wordsAt_behind] at ho
            exact ⟨none, 0, G, g, none, 0, he, ⟨own_none _ _ _, ho, own2_none _ _ _⟩, hb⟩)
          (fun b off c w h => (hrw_yes_23 b off n c zs m (T : Int) k w h.1 hx (by omega) h1 h0 h.2 h2n hT heq (by omega)).mono fun e w' h => by
            obtain ⟨G, g, he, ho, hb⟩ := h
            exact ⟨none, 0, G, g, none, 0, he, ⟨own_none _ _ _, ho, own2_none _ _ _⟩, hb⟩)
    · exact agree_bad {} ({ fn := 23 } : TV) h1 h8 (p_len (2 + (T : Int)) (fun h2 b off c w h => psz_list (some ⟨b, off, none⟩) n c zs w 23 (T : Int) h.1 hx (by omega) h2 h0 (by omega) hT) (by omega)) (fun b off c w h => bad_of_plain ({ fn := 23 } : TV) (hrd_len_23 b off n c zs m (T : Int) w h.1 hx (by omega) h1 h0 h.2 h2n hT (by omega)))

theorem p43_0 (b off c : Nat) (w : World) (m z2 z3 z5 : Int) (N : Nat) (hx : Bytes8 zs) (hn : n ≤ 300) (h0 : zs.getD 0 0 = 43) (h7 : 7 ≤ n) (h14 : zs.getD 1 0 = 14) (h2 : zs.getD 2 0 = z2) (h3 : zs.getD 3 0 = z3) (h4 : zs.getD 4 0 = 0) (h5 : zs.getD 5 0 = z5) (hN : zs.getD 6 0 = (N : Int)) (h : PIn zs n b off c w) :
    Calls Try.prog 26 #[.slice (some ⟨b, off, none⟩) n c, .int .i64 m] w fun e w' => DevGotfalse z2 z3 z5 N zs w e w' := by
  by_cases hc : c = 7
  · exact pfl7_43_0 b off n c zs m _ _ z2 z3 z5 N w h.1 hx (by omega) h0 h.2.1 (h.2.2 (by omega)) rfl rfl (by have := h.2.1; omega) hc h14 h2 h3 h4 h5 hN
  · exact pfl_43_0 b off n c zs m _ _ z2 z3 z5 N w h.1 hx (by omega) h0 h.2.1 (h.2.2 (by omega)) rfl rfl h7 (by have := h.2.1; omega) h14 h2 h3 h4 h5 hN

theorem p43_5 (b off c : Nat) (w : World) (m z2 z3 z5 : Int) (N : Nat) (hx : Bytes8 zs) (hn : n ≤ 300) (h0 : zs.getD 0 0 = 43) (h7 : 7 ≤ n) (h14 : zs.getD 1 0 = 14) (h2 : zs.getD 2 0 = z2) (h3 : zs.getD 3 0 = z3) (h4 : zs.getD 4 0 = 255) (h5 : zs.getD 5 0 = z5) (hN : zs.getD 6 0 = (N : Int)) (h : PIn zs n b off c w) :
    Calls Try.prog 26 #[.slice (some ⟨b, off, none⟩) n c, .int .i64 m] w fun e w' => DevGottrue z2 z3 z5 N zs w e w' := by
  by_cases hc : c = 7
  · exact pfl7_43_5 b off n c zs m _ _ z2 z3 z5 N w h.1 hx (by omega) h0 h.2.1 (h.2.2 (by omega)) rfl rfl (by have := h.2.1; omega) hc h14 h2 h3 h4 h5 hN
  · exact pfl_43_5 b off n c zs m _ _ z2 z3 z5 N w h.1 hx (by omega) h0 h.2.1 (h.2.2 (by omega)) rfl rfl h7 (by have := h.2.1; omega) h14 h2 h3 h4 h5 hN

theorem agree_43 (hx : Bytes8 zs) (hl : zs.length = n) (hn : n ≤ 300) (h1 : 1 ≤ n) (h0 : zs.getD 0 0 = 43) : Agree zs n m := by
  have h8 : zs.getD 0 0 < 128 := by omega
  by_cases h7 : n < 7
  · refine agree_bad {} ({ fn := 43 } : TV) h1 h8 (fun b off c w h => ?_) (fun b off c w h => bad_of_plain ({ fn := 43 } : TV) (hrd_43_few b off n c zs m w h.1 hx (by omega) h1 h0 h.2 h7))
    by_cases h2 : n < 2
    · exact p_few h2 b off c w h
    · exact bad_of_plain _ (pfl_43_few b off n c zs m _ _ w h.1 hx (by omega) h0 h.2.1 (h.2.2 (by omega)) rfl rfl (by omega) h7)
  · have h7 : 7 ≤ n := by omega
    have b2 : 0 ≤ zs.getD 2 0 ∧ zs.getD 2 0 ≤ 255 := hx.at_ 2
    have b3 : 0 ≤ zs.getD 3 0 ∧ zs.getD 3 0 ≤ 255 := hx.at_ 3
    have b5 : 0 ≤ zs.getD 5 0 ∧ zs.getD 5 0 ≤ 255 := hx.at_ 5
    obtain ⟨N, hN⟩ : ∃ N : Nat, zs.getD 6 0 = (N : Int) := Int.eq_ofNat_of_zero_le (hx.at_ 6).1
    have hN255 : N ≤ 255 := by have := (hx.at_ 6).2; change zs.getD 6 0 ≤ 255 at this; omega
    obtain ⟨z2, h2⟩ : ∃ z, zs.getD 2 0 = z := ⟨_, rfl⟩
    obtain ⟨z3, h3⟩ : ∃ z, zs.getD 3 0 = z := ⟨_, rfl⟩
    obtain ⟨z5, h5⟩ : ∃ z, zs.getD 5 0 = z := ⟨_, rfl⟩
    rw [h2] at b2
    rw [h3] at b3
    rw [h5] at b5
    by_cases hno : zs.getD 1 0 ≠ 14 ∨ (zs.getD 4 0 ≠ 0 ∧ zs.getD 4 0 ≠ 255)
    · refine agree_bad {} ({ fn := 43 } : TV) h1 h8 (fun b off c w h => bad_of_plain _ (pfl_43_no b off n c zs m _ _ w h.1 hx (by omega) h0 h.2.1 (h.2.2 (by omega)) rfl rfl h7 hno)) (fun b off c w h => ?_)
      by_cases h14 : zs.getD 1 0 = 14
      · have h4 : zs.getD 4 0 ≠ 0 ∧ zs.getD 4 0 ≠ 255 := by
          rcases hno with h | h
          · exact absurd h14 h
          · exact h
        exact bad_of_plain ({ fn := 43 } : TV) (hrd_43_no4 b off n c zs m w h.1 hx (by omega) h1 h0 h.2 h7 (by rw [h14]; rfl) (by simpa using h4.1) (by simpa using h4.2))
      · exact bad_of_plain ({ fn := 43 } : TV) (hrd_43_no1 b off n c zs m w h.1 hx (by omega) h1 h0 h.2 h7 (by simpa using h14))
    · have h14 : zs.getD 1 0 = 14 := by omega
      have h4 : zs.getD 4 0 = 0 ∨ zs.getD 4 0 = 255 := by omega
      rcases h4 with h4 | h4
      · have hP := fun b off c w (h : PIn zs n b off c w) => p43_0 b off c w m z2 z3 z5 N hx hn h0 h7 h14 h2 h3 h4 h5 hN h
        have hD := fun b off c w (h : DIn zs n b off c w) => hrd_43_0 b off n c zs m z2 z3 z5 N w h.1 hx (by omega) h1 h0 h.2 h7 h14 h2 h3 h4 h5 hN
        cases hpo : parseO N (zs.drop 7) with
        | none =>
          refine agree_bad ({ fn := 43, co := z2, le := z3, mo := false, nx := z5 } : TV) ({ fn := 43, co := z2, le := z3, mo := false, nx := z5 } : TV) h1 h8 (fun b off c w h => (hP b off c w h).mono fun e w' k => ?_) (fun b off c w h => (hD b off c w h).mono fun e w' k => ?_)
          · obtain ⟨OA, ol, oc, ok, he, hb, _, hf⟩ := k
            rw [hf hpo] at he
            exact ⟨none, 0, none, 0, OA, ol, oc, he, hb⟩
          · obtain ⟨OA, ol, oc, ok, he, hb, _, hf⟩ := k
            rw [hf hpo] at he
            exact ⟨none, 0, none, 0, OA, ol, oc, he, hb⟩
        | some os =>
          have hlen := parseO_length _ _ _ hpo
          have hsz := parseO_sizes _ _ _ hpo
          rw [List.length_drop] at hsz
          have hf : ({ fn := 43, co := z2, le := z3, mo := false, nx := z5, ol := os.length, os := os } : TV).Fine := ⟨⟨by dsimp only; omega, by dsimp only; omega, by dsimp only; omega, by dsimp only; omega, by dsimp only; omega, by dsimp only; omega, by dsimp only; omega, by dsimp only; omega, by dsimp only; omega, by dsimp only; omega, by dsimp only; omega, by dsimp only; omega, by dsimp only; omega, by dsimp only; omega, by dsimp only; omega, by dsimp only; omega⟩, by dsimp only; omega, by dsimp only; omega, by dsimp only; omega, fun o ho => by have := hsz o ho; omega⟩
          refine agree_ok ({ fn := 43, co := z2, le := z3, mo := false, nx := z5, ol := os.length, os := os } : TV) h1 h8 hf (fun b off c w h => (hP b off c w h).mono fun e w' k => ?_) (fun b off c w h => (hD b off c w h).mono fun e w' k => ?_)
          · obtain ⟨OA, ol, oc, ok, he, hb, hs, _⟩ := k
            obtain ⟨rfl, rfl, ho⟩ := hs os hpo
            exact ⟨none, 0, none, 0, OA, oc, he, ⟨own_none _ _ _, own_none _ _ _, own2_mono ho (Nat.le_add_right _ _)⟩, hb⟩
          · obtain ⟨OA, ol, oc, ok, he, hb, hs, _⟩ := k
            obtain ⟨rfl, rfl, ho⟩ := hs os hpo
            exact ⟨none, 0, none, 0, OA, oc, he, ⟨own_none _ _ _, own_none _ _ _, own2_mono ho (Nat.le_add_right _ _)⟩, hb⟩
      · have hP := fun b off c w (h : PIn zs n b off c w) => p43_5 b off c w m z2 z3 z5 N hx hn h0 h7 h14 h2 h3 h4 h5 hN h
        have hD := fun b off c w (h : DIn zs n b off c w) => hrd_43_5 b off n c zs m z2 z3 z5 N w h.1 hx (by omega) h1 h0 h.2 h7 h14 h2 h3 h4 h5 hN
        cases hpo : parseO N (zs.drop 7) with
        | none =>
          refine agree_bad ({ fn := 43, co := z2, le := z3, mo := true, nx := z5 } : TV) ({ fn := 43, co := z2, le := z3, mo := true, nx := z5 } : TV) h1 h8 (fun b off c w h => (hP b off c w h).mono fun e w' k => ?_) (fun b off c w h => (hD b off c w h).mono fun e w' k => ?_)
          · obtain ⟨OA, ol, oc, ok, he, hb, _, hf⟩ := k
            rw [hf hpo] at he
            exact ⟨none, 0, none, 0, OA, ol, oc, he, hb⟩
          · obtain ⟨OA, ol, oc, ok, he, hb, _, hf⟩ := k
            rw [hf hpo] at he
            exact ⟨none, 0, none, 0, OA, ol, oc, he, hb⟩
        | some os =>
          have hlen := parseO_length _ _ _ hpo
          have hsz := parseO_sizes _ _ _ hpo
          rw [List.length_drop] at hsz
          have hf : ({ fn := 43, co := z2, le := z3, mo := true, nx := z5, ol := os.length, os := os } : TV).Fine := ⟨⟨by dsimp only; omega, by dsimp only; omega, by dsimp only; omega, by dsimp only; omega, by dsimp only; omega, by dsimp only; omega, by dsimp only; omega, by dsimp only; omega, by dsimp only; omega, by dsimp only; omega, by dsimp only; omega, by dsimp only; omega, by dsimp only; omega, by dsimp only; omega, by dsimp only; omega, by dsimp only; omega⟩, by dsimp only; omega, by dsimp only; omega, by dsimp only; omega, fun o ho => by have := hsz o ho; omega⟩
          refine agree_ok ({ fn := 43, co := z2, le := z3, mo := true, nx := z5, ol := os.length, os := os } : TV) h1 h8 hf (fun b off c w h => (hP b off c w h).mono fun e w' k => ?_) (fun b off c w h => (hD b off c w h).mono fun e w' k => ?_)
          · obtain ⟨OA, ol, oc, ok, he, hb, hs, _⟩ := k
            obtain ⟨rfl, rfl, ho⟩ := hs os hpo
            exact ⟨none, 0, none, 0, OA, oc, he, ⟨own_none _ _ _, own_none _ _ _, own2_mono ho (Nat.le_add_right _ _)⟩, hb⟩
          · obtain ⟨OA, ol, oc, ok, he, hb, hs, _⟩ := k
            obtain ⟨rfl, rfl, ho⟩ := hs os hpo
            exact ⟨none, 0, none, 0, OA, oc, he, ⟨own_none _ _ _, own_none _ _ _, own2_mono ho (Nat.le_add_right _ _)⟩, hb⟩

/-- Both sides agree on any bytes. -/
theorem agree_any (hx : Bytes8 zs) (hl : zs.length = n) (hn : n ≤ 300) (h1 : 1 ≤ n) (m0 : -9223372036854775808 ≤ m) (m1 : m ≤ 9223372036854775807) : Agree zs n m := by
  have hb : 0 ≤ zs.getD 0 0 ∧ zs.getD 0 0 ≤ 255 := hx.at_ 0
  by_cases h8 : 128 ≤ zs.getD 0 0
  · exact agree_exc _ hx hn h1 rfl h8
  · rcases kinds (zs.getD 0 0) with h | h | h | h | h | h | h | h | h | h | h | h
    · exact agree_1 hx hn h1 h m0 m1
    · exact agree_2 hx hn h1 h m0 m1
    · exact agree_3 hx hn h1 h
    · exact agree_4 hx hn h1 h
    · exact agree_5 hx hn h1 h
    · exact agree_6 hx hn h1 h
    · exact agree_15 hx hn h1 h
    · exact agree_16 hx hn h1 h
    · exact agree_22 hx hn h1 h
    · exact agree_23 hx hn h1 h
    · exact agree_43 hx hl hn h1 h
    · exact agree_none _ hx hn h1 rfl h hb.1 (by omega)
end

/-- A call of Parse or of TellParse answers these numbers and lists, and this error. -/
def TRes (F : FuncId) (A : Option Addr) (n c : Nat) (m : Int) (fn ex : Int) (bl wl : Nat) (at_ q v an orr co le : Int) (mo : Bool) (nx : Int) (ol : Nat) (bs : List Bool) (ws : List Int) (os : List Ob) (E : Int) (w : World) : Prop :=
  Calls Try.prog F #[.slice A n c, .int .i64 m] w fun e w' => ∃ BA bc WA wc OA oc, e = .returned (.tuple #[.agg #[.int .i64 fn, .int .i64 ex, .slice BA bl bc, .slice WA wl wc, .int .i64 at_, .int .i64 q, .int .u16 v, .int .u16 an, .int .u16 orr, .int .i64 co, .int .i64 le, .bool mo, .int .i64 nx, .slice OA ol oc], .int .i64 E]) ∧
    w'.ownsRow w.heap.size 4 1 (.slice BA bl bc) bl (bs.map Value.bool) ∧ w'.ownsRow w.heap.size 25 1 (.slice WA wl wc) wl (ws.map (Value.int .u16)) ∧ w'.ownsRow w.heap.size 57 2 (.slice OA ol oc) ol (obs os) ∧ Below w.heap.size w w'
theorem res_zero {F : FuncId} {A : Option Addr} {n c : Nat} {m : Int} {w : World} (h : TZero F A n c m w) : TRes F A n c m 0 0 0 0 0 0 0 0 0 0 0 false 0 0 [] [] [] 2 w :=
  h.mono fun e w' h => ⟨none, 0, none, 0, none, 0, h.1, own_none _ _ _, own_none _ _ _, own2_none _ _ _, h.2⟩
theorem res_got {F : FuncId} {A : Option Addr} {n c : Nat} {m : Int} {t : TV} {w : World} (h : TGot F A n c m t w) : TRes F A n c m t.fn t.ex t.bl t.wl t.at_ t.q t.v t.an t.orr t.co t.le t.mo t.nx t.ol t.bs t.ws t.os 0 w :=
  h.mono fun e w' h => by
    obtain ⟨BA, bc, WA, wc, OA, oc, he, hr, hb⟩ := h
    exact ⟨BA, bc, WA, wc, OA, oc, he, own_mono hr.1 (Nat.le_succ _), own_mono hr.2.1 (Nat.le_succ _), own2_mono hr.2.2 (Nat.le_succ _), hb⟩

theorem ends_in (zs : List Int) (n : Nat) (m : Int) (hx : Bytes8 zs) (hl : zs.length = n) (hn : n ≤ 300) (m0 : -9223372036854775808 ≤ m) (m1 : m ≤ 9223372036854775807) :
    ∃ (fn ex : Int) (bl wl : Nat) (at_ q v an orr co le : Int) (mo : Bool) (nx : Int) (ol : Nat) (bs : List Bool) (ws : List Int) (os : List Ob) (E : Int), bl ≤ 100000 ∧ wl ≤ 100000 ∧ ol ≤ 100000 ∧
      (∀ g off c w, PIn zs n g off c w → TRes 8 (some ⟨g, off, none⟩) n c m fn ex bl wl at_ q v an orr co le mo nx ol bs ws os E w) ∧
      ∀ A c w, Row .u8 w w.heap.size A n zs → n ≤ c → TRes 12 A n c m fn ex bl wl at_ q v an orr co le mo nx ol bs ws os E w := by
  by_cases h0 : n = 0
  · exact ⟨0, 0, 0, 0, 0, 0, 0, 0, 0, 0, 0, false, 0, 0, [], [], [], 2, by omega, by omega, by omega, fun g off c w h => res_zero (p_bad (zs := zs) (p_few (by omega)) h), fun A c w hr hc => res_zero (rpx_nil A n c m w h0)⟩
  · rcases agree_any (zs := zs) (n := n) (m := m) hx hl hn (by omega) m0 m1 with ⟨hp, hd⟩ | ⟨t, hf, hp, hd⟩
    · refine ⟨0, 0, 0, 0, 0, 0, 0, 0, 0, 0, 0, false, 0, 0, [], [], [], 2, by omega, by omega, by omega, fun g off c w h => res_zero (hp g off c w h), fun A c w hr hc => ?_⟩
      obtain ⟨b, off, rfl, _⟩ := hr.2 (by omega)
      exact res_zero (hd b off c w ⟨hr, hc⟩)
    · refine ⟨t.fn, t.ex, t.bl, t.wl, t.at_, t.q, t.v, t.an, t.orr, t.co, t.le, t.mo, t.nx, t.ol, t.bs, t.ws, t.os, 0, hf.bl, hf.wl, hf.ol, fun g off c w h => res_got (hp g off c w h), fun A c w hr hc => ?_⟩
      obtain ⟨b, off, rfl, _⟩ := hr.2 (by omega)
      exact res_got (hd b off c w ⟨hr, hc⟩)
theorem ends_any (zs : List Int) (n : Nat) (m : Int) (hx : Bytes8 zs) (hl : zs.length = n) (hn : n ≤ 300) (m0 : -9223372036854775808 ≤ m) (m1 : m ≤ 9223372036854775807) :
    ∃ (fn ex : Int) (bl wl : Nat) (at_ q v an orr co le : Int) (mo : Bool) (nx : Int) (ol : Nat) (bs : List Bool) (ws : List Int) (os : List Ob) (E : Int), bl ≤ 100000 ∧ wl ≤ 100000 ∧ ol ≤ 100000 ∧
      (∀ g off c w, Row .u8 w w.heap.size (some ⟨g, off, none⟩) n zs → n < c → TRes 8 (some ⟨g, off, none⟩) n c m fn ex bl wl at_ q v an orr co le mo nx ol bs ws os E w) ∧
      ∀ A c w, Row .u8 w w.heap.size A n zs → n ≤ c → TRes 12 A n c m fn ex bl wl at_ q v an orr co le mo nx ol bs ws os E w := by
  obtain ⟨fn, ex, bl, wl, at_, q, v, an, orr, co, le, mo, nx, ol, bs, ws, os, E, h1, h2, h3, hp, hd⟩ := ends_in zs n m hx hl hn m0 m1
  exact ⟨fn, ex, bl, wl, at_, q, v, an, orr, co, le, mo, nx, ol, bs, ws, os, E, h1, h2, h3, fun g off c w hr hc => hp g off c w ⟨hr, by omega, by omega⟩, hd⟩

theorem pfail_any (fn ex : Int) (w : World) :
    Calls Try.prog 17 #[.int .i64 fn, .int .i64 ex] w fun e w' => e = .returned (.agg #[.int .i64 fn, .int .i64 ex, .slice none 0 0, .slice none 0 0, .int .i64 0, .int .i64 0, .int .u16 0, .int .u16 0, .int .u16 0, .int .i64 0, .int .i64 0, .bool false, .int .i64 0, .slice none 0 0]) ∧ Below w.heap.size w w' := by
  go_enter Try.func17, Try.ntmps17
  go_wp2
  exact bodyPost_ret (v := .agg #[.int .i64 fn, .int .i64 ex, .slice none 0 0, .slice none 0 0, .int .i64 0, .int .i64 0, .int .u16 0, .int .u16 0, .int .u16 0, .int .i64 0, .int .i64 0, .bool false, .int .i64 0, .slice none 0 0]) (by simp [results, Try.results17, go_sem]) rfl ⟨rfl, (Below.refl _ _).alloc (Nat.le_refl _) _⟩
theorem wide0 : WideT 0 0 0 0 0 0 0 0 := by constructor <;> omega
/-- Parse of an exception's two bytes. -/
theorem pparse_exc (A : Option Addr) (c : Nat) (m : Int) (w : World) (f x : Int) (zs : List Int) (hr : Row .u8 w w.heap.size A 2 zs) (hx : Bytes8 zs) (h0 : zs.getD 0 0 = f) (hf : 128 ≤ f) (h1 : zs.getD 1 0 = x) (hz : x = 1 ∨ x = 2 ∨ x = 3 ∨ x = 4 ∨ x = 6) :
    Calls Try.prog 8 #[.slice A 2 c, .int .i64 m] w fun e w' => ∃ BA bc WA wc OA oc, e = .returned (.tuple #[.agg #[.int .i64 (f - 128), .int .i64 x, .slice BA 0 bc, .slice WA 0 wc, .int .i64 0, .int .i64 0, .int .u16 0, .int .u16 0, .int .u16 0, .int .i64 0, .int .i64 0, .bool false, .int .i64 0, .slice OA 0 oc], .int .i64 0]) ∧ Below w.heap.size w w' := by
  have hbf := hx.at_ 0
  change 0 ≤ zs.getD 0 0 ∧ zs.getD 0 0 ≤ 255 at hbf
  rw [h0] at hbf
  refine (pp_ok A 2 c m w (f - 128) x 0 0 0 0 0 0 0 0 0 false 0 0 true (fun _ _ _ _ _ _ _ _ => True) ?_ (fun _ _ _ _ _ _ _ _ _ _ _ => trivial) (fun _ _ _ _ _ _ _ _ _ _ _ _ => trivial) (fun _ X _ _ _ _ OA oc _ => fits_nil X OA oc) wide0 (decide_eq_true ((tell_exc (by omega)).2 ⟨hz, by omega, by decide⟩))).mono fun e w' ⟨BA, bc, WA, wc, OA, oc, h1, _, h3⟩ => ⟨BA, bc, WA, wc, OA, oc, h1, h3⟩
  intro W hW
  refine (pfT_exc A 2 c zs m W f x ((hr.below hW).more hW.size) hx rfl h0 hf h1).mono fun e w' ⟨he, hb⟩ => ⟨none, 0, none, 0, none, 0, ?_, trivial, hb⟩
  rw [he, decide_eq_true (show x ≠ 0 by omega)]

theorem bits5 : unb ([1, 1, 5].drop 2) 3 = [true, false, true] := by decide +kernel
/-- The chapter's example of bits. -/
theorem parse_bits (A : Option Addr) (w : World) (hr : Row .u8 w w.heap.size A 3 [1, 1, 5]) :
    Calls Try.prog 8 #[.slice A 3 3, .int .i64 3] w fun e w' => ∃ BA bc WA wc OA oc, e = .returned (.tuple #[.agg #[.int .i64 1, .int .i64 0, .slice BA 3 bc, .slice WA 0 wc, .int .i64 0, .int .i64 0, .int .u16 0, .int .u16 0, .int .u16 0, .int .i64 0, .int .i64 0, .bool false, .int .i64 0, .slice OA 0 oc], .int .i64 0]) ∧ w'.ownsRow (w.heap.size + 1) 4 1 (.slice BA 3 bc) 3 ([true, false, true].map Value.bool) ∧ Below w.heap.size w w' := by
  obtain ⟨b, off, rfl, _⟩ := hr.2 (by omega)
  refine (pp_ok (some ⟨b, off, none⟩) 3 3 3 w 1 0 3 0 0 0 0 0 0 0 0 false 0 0 true (fun base X BA bc _ _ _ _ => X.ownsRow base 4 1 (.slice BA 3 bc) 3 ([true, false, true].map Value.bool)) ?_ (fun _ _ _ _ _ _ _ _ _ h hb => own_keep h hb) (fun _ _ p u _ _ _ _ _ _ h hp => own_far h p hp u) (fun _ X _ _ _ _ OA oc _ => fits_nil X OA oc) wide0 (by decide))
  intro W hW
  refine (pfl_b_yes_1 b off 3 3 [1, 1, 5] 3 _ _ 1 3 W ((hr.below hW).more hW.size) (by intro x hx; simp at hx; omega) (by omega) rfl (by omega) (by omega) rfl rfl rfl rfl rfl rfl).mono ?_
  rintro e w' ⟨G, g, rfl, ho, hb⟩
  rw [bits5] at ho
  exact ⟨G, g, none, 0, none, 0, rfl, ho, hb⟩

theorem exc_str : strOfNums [131, 2] = ⟨#[131, 2]⟩ := by decide +kernel

set_option maxRecDepth 100000 in
set_option maxHeartbeats 1000000 in
theorem awake_any (w : World) : Calls Try.prog 5 #[] w fun e w' => e = .returned (.bool true) ∧ Below w.heap.size w w' := by
  go_enter Try.func5, Try.ntmps5
  go_wp2_with (first
    | (go_at_call 17; refine (pfail_any 3 2 _).mono ?_; rintro e w0 ⟨rfl, hb0⟩; have HB0 := Lib.hid hb0; clear hb0)
    | (go_at_call 7
       refine (pbT_exc 3 2 0 0 0 0 0 0 0 0 0 false 0 0 none none none 0 0 0 _ true wide0 (by omega) (by decide)).mono ?_
       rintro e w1 ⟨g1, rfl, hg1, hgs, hb1⟩
       have HB1 := Lib.hid hb1
       have HG1 := Lib.hid hg1
       clear hb1 hg1))
  refine (parse_bits _ _ (by
    have h := heap_alloc_new w1 (.cells #[.int .u8 1, .int .u8 1, .int .u8 5] 5)
    have h2 : Whole .u8 (w1.alloc (.cells #[.int .u8 1, .int .u8 1, .int .u8 5] 5)) w1.heap.size 5 [1, 1, 5] := h
    exact h2.row)).mono ?_
  rintro e w2 ⟨BA, bc, WA, wc, OA, oc, rfl, ho, hb2⟩
  obtain ⟨g2, c2, hv2, hg2, hr2⟩ := row_of_own ho (by omega)
  injection hv2 with hv3 hv4 hv5
  subst hv3 hv5
  obtain ⟨ad, had, hlt, hcells⟩ := hr2.src (by omega)
  injection had with had
  subst had
  have hk0 := hcells 0 (.bool true) rfl
  have hk1 := hcells 1 (.bool false) rfl
  have hk2 := hcells 2 (.bool true) rfl
  rw [add_none] at hk0 hk1 hk2
  have hlt2 : g2 < w2.heap.size := hlt
  have hb3 : Below w1.heap.size w1 (w2.alloc (.cells #[.int .i64 1, .int .i64 0, .slice (some ⟨g2, 0, none⟩) 3 bc, .slice WA 0 wc, .int .i64 0, .int .i64 0, .int .u16 0, .int .u16 0, .int .u16 0, .int .i64 0, .int .i64 0, .bool false, .int .i64 0, .slice OA 0 oc] 28)) := (((Below.refl _ _).alloc (Nat.le_refl _) _).trans (hb2.mono (by simp))).alloc (by have := hb2.size; simp at this; omega) _
  have hc := conv_row _ 2 2 [131, 2] _ ((HG1.out.row.below hb3).more hb3.size)
  rw [exc_str] at hc
  have HB3 := Lib.hid (HB0.out.trans ((HB1.out.trans (hb3.mono HB1.out.size)).mono HB0.out.size))
  clear hb3 hb2 ho hr2 hg2 hlt hcells
  go_wp2_with fail
  go_ret
  exact ⟨rfl, HB3.out⟩

end Go.Proofs.Ytielfekkonflfaa
