/- What stands at a round's head of FlowPlays, and how a round keeps it. No statement is proved here. -/
import Derived.Test.YthmendcdfhlkkaaRFlow
import Derived.Test.YthmendcdfhlkkaaFlow4
import Derived.Test.YthmendcdfhlkkaaJFlowBad4
import Derived.Test.YthmendcdfhlkkaaFCutsT
import Derived.Test.YthmendcdfhlkkaaLentBytes
namespace Go.Proofs.Ythmendcdfhlkkaa
open Go.ChangeShapes Go.WideShapes Go.ChangeAt Go.RowKit
set_option linter.unusedVariables false
set_option linter.unusedSimpArgs false

/-- A flow of the program's in block g, one of the document's in block y: alike; bs are still to come, in a row that neither holds. -/
structure PI (w : World) (g y x p f M Md base : Nat) (qs : List Int) (dd : Bool) (A : Option Addr) (m d : Nat) (bs : List Int) (wr : World) : Prop where
  fl : FAt wr g p M f qs dd
  dl : DAt wr y x base Md qs dd
  live : dd = false → M = Md ∧ p < x
  gx : g < x
  xy : x < y
  py : p ≠ x ∧ p ≠ y
  row : RowOff wr (fun k => k = g ∨ k = p ∨ k = y ∨ k = x) A m bs
  cap : m ≤ d
  bytes : Bytes8 bs
  nil : A = none → d = 0
  lo : w.heap.size ≤ g ∧ w.heap.size ≤ p ∧ w.heap.size ≤ x
  bel : Below w.heap.size w wr
def PInv (w : World) (g y x : Nat) (A : Option Addr) (m d : Nat) (bs : List Int) (wr : World) : Prop := ∃ p f M Md base qs dd, PI w g y x p f M Md base qs dd A m d bs wr

section
variable {w : World} {g y x p f M Md base : Nat} {qs : List Int} {dd : Bool} {A : Option Addr} {m d : Nat} {bs : List Int} {wr : World}

theorem PI.below {w1 : World} (h : PI w g y x p f M Md base qs dd A m d bs wr) (hb : Below wr.heap.size wr w1) : PI w g y x p f M Md base qs dd A m d bs w1 :=
  ⟨h.fl.below hb, h.dl.below hb, h.live, h.gx, h.xy, h.py, h.row.below hb, h.cap, h.bytes, h.nil, h.lo, h.bel.trans (hb.mono h.bel.size)⟩

/-- The document's flow after a change of the program's. -/
theorem PI.dl_off {w1 : World} (h : PI w g y x p f M Md base qs dd A m d bs wr) (ho : Off (GP g p) wr w1) : ∃ base', DAt w1 y x base' Md qs dd ∧ (dd = false → base' = base) := by
  have h1 := h.gx
  have h2 := h.xy
  have h3 := h.py
  have h4 := h.dl.ref.lt
  refine h.dl.keep ho (fun e => by rcases e with e | e <;> omega) (fun e => by rcases e with e | e <;> omega) (fun hd k hk _ e => ?_)
  have h5 := (h.live hd).2
  rcases e with e | e <;> omega
/-- The program's flow after a change of the document's. -/
theorem PI.fl_off {w1 w2 : World} {f1 M1 p1 : Nat} {q1 : List Int} {d1 : Bool} (h : PI w g y x p f M Md base qs dd A m d bs wr) (hf : FAt w1 g p1 M1 f1 q1 d1) (hp : p1 ≠ x ∧ p1 ≠ y) (ho : Off (YX y x) w1 w2) : FAt w2 g p1 M1 f1 q1 d1 := by
  have h1 := h.gx
  have h2 := h.xy
  exact hf.off ho (fun e => by rcases e with e | e <;> omega) (fun e => by rcases e with e | e <;> omega)

/-- Feed of the first N bytes, lent. -/
theorem PI.feeds (h : PI w g y x p f M Md base qs dd A m d bs wr) (N N' : Nat) (hN : N ≤ m) (hN6 : N ≤ 60) (hN' : N' = min N (M - qs.length)) (w1 : World) (hb : Below wr.heap.size wr w1) (hL : Whole .u8 w1 wr.heap.size 5 (bs.take N ++ [165, 165, 165])) :
    Calls Try.prog 29 #[.pointer (some ⟨g, 0, none⟩), .slice (some ⟨wr.heap.size, 0, none⟩) N (N + 3)] w1 (Fed w1 g p M f qs dd N' (bs.take N)) := by
  have hl := h.fl.q.lt
  have hr := h.row.1
  exact feed_any w1 g p M f qs dd _ N (N + 3) (bs.take N) N' (h.fl.below hb) (take_bytes8 h.bytes N) (RowOff.of_whole hL (by rw [List.length_take]; omega) (fun e => by rcases e with e | e <;> omega)) (by omega) (by omega) hN'
/-- The same of the document's, out of the row itself. -/
theorem PI.dfeeds (h : PI w g y x p f M Md base qs dd A m d bs wr) (N N' : Nat) (hN : N ≤ m) (hN6 : N ≤ 60) (hN' : N' = min N (M - qs.length)) (w1 w2 : World) (hb : Below wr.heap.size wr w1) (ho : Off (GP g p) w1 w2) :
    Calls Try.prog 30 #[.pointer (some ⟨y, 0, none⟩), .slice A N d] w2 (DFed w2 y x Md qs dd N' (bs.take N)) := by
  have h1 := h.below hb
  obtain ⟨base', hd, _⟩ := h1.dl_off ho
  have hr := (h1.row.off (T := GP g p) ho (fun k hk => by rcases hk with e | e; exact .inl e; exact .inr (.inl e))).take N hN
  have hc := h.cap
  refine dfeed_any w2 y x base' Md qs dd A N d (bs.take N) N' hd hr.row (take_bytes8 h.bytes N) (by omega) (by omega) ?_
  cases dd with
  | true => rw [if_pos rfl, hN', (h.fl.dead rfl).2]; omega
  | false => rw [if_neg (by decide), hN', (h.live rfl).1]
/-- After both. -/
theorem PI.fed (h : PI w g y x p f M Md base qs dd A m d bs wr) (N N' : Nat) (hN : N ≤ m) (w1 w2 w3 : World) (hb : Below wr.heap.size wr w1) (hL : Whole .u8 w1 wr.heap.size 5 (bs.take N ++ [165, 165, 165]))
    (hf : FAt w2 g p M f (qs ++ (bs.take N).take N') dd) (ho : Off (GP g p) w1 w2) (hd : ∃ base', DAt w3 y x base' Md (qs ++ (bs.take N).take N') dd) (ho2 : Off (YX y x) w2 w3) :
    Row .u8 w3 w3.heap.size A N (bs.take N) ∧ Whole .u8 w3 wr.heap.size 5 (bs.take N ++ [165, 165, 165]) ∧ ∀ A' wx, ((d = N ∧ A' = A) ∨ A' = A.map fun x => x.add N) → Below w3.heap.size w3 wx → PInv w g y x A' (m - N) (d - N) (bs.drop N) wx := by
  have h1 := h.below hb
  have hl := h.fl.q.lt
  have hyl := h.dl.head.lt
  have hxl : x < wr.heap.size := Nat.lt_of_lt_of_le h.dl.ref.lt h.dl.ref.le
  have r1 := (h1.row.off (T := GP g p) ho (fun k hk => by rcases hk with e | e; exact .inl e; exact .inr (.inl e))).off (T := YX y x) ho2 (fun k hk => by rcases hk with e | e; exact .inr (.inr (.inl e)); exact .inr (.inr (.inr e)))
  have hf3 := h.fl_off hf h.py ho2
  obtain ⟨base', hd⟩ := hd
  have b2 := below_gp h1.bel h1.bel.size ho h.lo.1 h.lo.2.1
  have b3 : Below w.heap.size w w3 := b2.trans (ho2.below b2.size (fun k hk e => by have := h.lo; have := h.xy; rcases e with e | e <;> omega))
  refine ⟨(r1.take N hN).row, ho2.wholeI (ho.wholeI hL (fun e => by rcases e with e | e <;> omega)) (fun e => by rcases e with e | e <;> omega), fun A' wx hA hx => ⟨p, f, M, Md, base', qs ++ (bs.take N).take N', dd, ?_⟩⟩
  have hc := h.cap
  refine ⟨hf3.below hx, hd.below hx, h.live, h.gx, h.xy, h.py, RowOff.below ?_ hx, by omega, fun v hv => h.bytes v (List.mem_of_mem_drop hv), fun e => ?_, h.lo, b3.trans (hx.mono b3.size)⟩
  case refine_2 =>
    rcases hA with ⟨h5, _⟩ | h5
    · omega
    · rw [h5] at e
      cases A with
      | none => have := h.nil rfl; omega
      | some ad => cases e
  by_cases hmN : m = N
  · exact r1.nothing N hmN
  · rcases hA with ⟨h5, _⟩ | h5
    · omega
    · obtain ⟨b, off, e, hb, hs, hcc⟩ := r1.2 (by omega)
      subst e
      rw [h5]
      show RowOff w3 _ (some (Addr.add ⟨b, off, none⟩ N)) (m - N) (bs.drop N)
      rw [add_none]
      exact r1.drop N hN

/-- The document's Next, behind the program's. -/
theorem PI.dnexts (h : PI w g y x p f M Md base qs dd A m d bs wr) (w1 w2 : World) (ho : Off (GP g p) wr w1) (hb : Below w1.heap.size w1 w2) :
    Calls Try.prog 32 #[.pointer (some ⟨y, 0, none⟩)] w2 (DNextGot w2 y x Md qs dd) := by
  obtain ⟨base', hd, _⟩ := h.dl_off ho
  exact dnext_any w2 y x base' Md qs dd (hd.below hb)
/-- After both. -/
theorem PI.nexted (h : PI w g y x p f M Md base qs dd A m d bs wr) (w1 w2 w3 : World) (f' p' : Nat) (hf : FAt w1 g p' (nM dd qs M) f' (nQ dd qs) (nD dd qs)) (hp : p' = p ∨ (gE dd qs = 2 ∧ wr.heap.size ≤ p')) (ho : Off (GP g p) wr w1) (hb : Below w1.heap.size w1 w2)
    (hd : ∃ base', DAt w3 y x base' Md (nQ dd qs) (nD dd qs)) (ho2 : Off (YX y x) w2 w3) (wx : World) (hx : Below w3.heap.size w3 wx) : PInv w g y x A m d bs wx := by
  have hl := h.fl.q.lt
  have hyl := h.dl.head.lt
  have hxl : x < wr.heap.size := Nat.lt_of_lt_of_le h.dl.ref.lt h.dl.ref.le
  have hpy : p' ≠ x ∧ p' ≠ y := by
    have := h.py
    rcases hp with e | ⟨_, e⟩
    · subst e; exact this
    · omega
  have hs := h.bel.size
  have hp2 : w.heap.size ≤ p' := by
    have := h.lo
    rcases hp with e | ⟨_, e⟩ <;> omega
  have r1 : RowOff w1 (fun k => k = g ∨ k = p' ∨ k = y ∨ k = x) A m bs := ⟨h.row.1, fun h0 => by
    obtain ⟨b, off, e, hb, hs, hc⟩ := h.row.2 h0
    refine ⟨b, off, e, Nat.lt_of_lt_of_le hb ho.size, fun hg => ?_, fun j hj => (ho.cell (p := ⟨b, off + j, none⟩) hb (fun hg => hs (by rcases hg with e | e; exact .inl e; exact .inr (.inl e)))).trans (hc j hj)⟩
    rcases hg with hg | hg | hg | hg
    · exact hs (.inl hg)
    · rcases hp with e | ⟨_, e⟩
      · exact hs (.inr (.inl (by omega)))
      · omega
    · exact hs (.inr (.inr (.inl hg)))
    · exact hs (.inr (.inr (.inr hg)))⟩
  have r3 := ((r1.below hb).off (T := YX y x) ho2 (fun k hk => by rcases hk with e | e; exact .inr (.inr (.inl e)); exact .inr (.inr (.inr e)))).below hx
  obtain ⟨base', hd⟩ := hd
  have b1 := below_gp h.bel h.bel.size ho h.lo.1 h.lo.2.1
  have b2 := b1.trans (hb.mono b1.size)
  have b3 : Below w.heap.size w w3 := b2.trans (ho2.below b2.size (fun k hk e => by have := h.lo; have := h.xy; rcases e with e | e <;> omega))
  refine ⟨p', f', nM dd qs M, Md, base', nQ dd qs, nD dd qs, (h.fl_off (hf.below hb) hpy ho2).below hx, hd.below hx, fun e => ?_, h.gx, h.xy, hpy, r3, h.cap, h.bytes, h.nil, ⟨h.lo.1, hp2, h.lo.2.2⟩, b3.trans (hx.mono b3.size)⟩
  have hne : ¬ gE dd qs = 2 := by unfold nD at e; exact of_decide_eq_false e
  have hdd : dd = false := by
    cases dd with
    | true => exact absurd rfl hne
    | false => rfl
  obtain ⟨k1, k2⟩ := h.live hdd
  refine ⟨by unfold nM; rw [if_neg hne]; exact k1, ?_⟩
  rcases hp with e | ⟨e, _⟩
  · omega
  · exact absurd e hne

end

end Go.Proofs.Ythmendcdfhlkkaa
