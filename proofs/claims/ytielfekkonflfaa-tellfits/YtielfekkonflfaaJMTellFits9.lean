/- Joined: Cell11. -/
import Derived.Test.YtielfekkonflfaaJMTellFits7
import Derived.Test.YtielfekkonflfaaJMTellFits8
import Derived.Test.YtielfekkonflfaaJMTellFits2
import Derived.Test.YtielfekkonflfaaLAsk
namespace Go.Proofs.Ytielfekkonflfaa
open Go.ChangeShapes Go.WideShapes Go.ChangeAt Go.RowKit
set_option linter.unusedVariables false
set_option linter.unusedSimpArgs false

def DoGot (g : Nat) (fn n : Int) (w : World) (e : Ending) (w' : World) : Prop :=
  DoNo g w e w' ∨ ∃ t : TV, t.right ∧ t.Fine ∧ BacksF t n ∧ t.fn = fn ∧ ∃ BA bc WA wc OA oc, e = .returned (.tuple #[t.agg BA bc WA wc OA oc, .bool true]) ∧ BRow w' w'.heap.size BA t.bl t.bs ∧ Row .u16 w' w'.heap.size WA t.wl t.ws ∧ OL w' w'.heap.size OA t.ol t.os ∧ Off (fun k => k = g) w w'

theorem fdo_any (g N : Nat) (fn at_ n x an orr : Int) (bl wl : Nat) (ra rn co ob : Int) (BA WA : Option Addr) (bc wc : Nat) (bs : List Bool) (ws : List Int) (w : World) (hF : FileAt w g N) (hN : N ≤ 800000) (hG : AskGood fn at_ n x an orr bl wl ra rn co ob bs ws) (hbr : BRow w w.heap.size BA bl bs) (hwr : Row .u16 w w.heap.size WA wl ws) :
    Calls Try.prog 16 #[.pointer (some ⟨g, 0, none⟩), .agg #[.int .i64 fn, .int .i64 at_, .int .i64 n, .int .u16 x, .int .u16 an, .int .u16 orr, .slice BA bl bc, .slice WA wl wc, .int .i64 ra, .int .i64 rn, .int .i64 co, .int .i64 ob]] w (DoGot g fn n w) := by
  have hr := hG.1
  have hw := hG.2.1
  have hws := hG.2.2.1
  have hE : (fn = 5 ∨ fn = 6 ∨ fn = 15 ∨ fn = 16 ∨ fn = 22) → ({ fn := fn, at_ := at_, q := n, v := x, an := an, orr := orr } : TV).right := fun h => by
    have h1 := ((echo_right fn at_ n x an orr bl wl ra rn co ob).2 ⟨hr, h⟩).1
    unfold TV.right
    dsimp only
    rw [fit0]
    exact h1
  have hW : WideT at_ n x an orr 0 0 0 := by
    have h1 := hw.a0; have h2 := hw.a1; have h3 := hw.n0; have h4 := hw.n1; have h5 := hw.v0; have h6 := hw.v1; have h7 := hw.x0; have h8 := hw.x1; have h9 := hw.o0; have h10 := hw.o1
    constructor <;> omega
  have hf : ∀ f : Int, ({ fn := f, at_ := at_, q := n, v := x, an := an, orr := orr } : TV).Fine := fun f => ⟨hW, by dsimp only; omega, by dsimp only; omega, by dsimp only; omega, fun o ho => by cases ho⟩
  have hfit := hr.2.2.2.2
  have hpl := hr.2.1
  unfold fitsP at hfit
  unfold plainP at hpl
  rcases kinds fn with rfl | rfl | rfl | rfl | rfl | rfl | rfl | rfl | rfl | rfl | rfl | hno
  · have hm : kMostR 1 = 2000 := by decide
    have hn : 1 ≤ n.toNat ∧ n.toNat ≤ 2000 := by omega
    have en : ((n.toNat : Nat) : Int) = n := by omega
    refine (fdo_1 g N at_ n x an orr bl wl ra rn co ob BA WA bc wc bs ws w hF hN hr hw hbr hwr hws).mono fun e w' h => ?_
    rcases h with h | ⟨BX, bx, xs, he, hl, hb, ho⟩
    · exact .inl h
    · have hr1 : ({ fn := 1, bl := n.toNat, bs := xs } : TV).right := .inl ⟨rfl, (by dsimp only; decide), by dsimp only; omega, by unfold rangT; dsimp only; omega, by unfold restT; dsimp only; simp⟩
      have hB := backsF_1 n.toNat xs hl hn hr1
      rw [en] at hB
      exact .inr ⟨({ fn := 1, bl := n.toNat, bs := xs } : TV), hr1, ⟨⟨by dsimp only; omega, by dsimp only; omega, by dsimp only; omega, by dsimp only; omega, by dsimp only; omega, by dsimp only; omega, by dsimp only; omega, by dsimp only; omega, by dsimp only; omega, by dsimp only; omega, by dsimp only; omega, by dsimp only; omega, by dsimp only; omega, by dsimp only; omega, by dsimp only; omega, by dsimp only; omega⟩, by dsimp only; omega, by dsimp only; omega, by dsimp only; omega, fun o ho => by cases ho⟩, hB, rfl, BX, bx, none, 0, none, 0, he, hb, Row.nil _ _ _ _, OL.nil, ho⟩
  · have hm : kMostR 2 = 2000 := by decide
    have hn : 1 ≤ n.toNat ∧ n.toNat ≤ 2000 := by omega
    have en : ((n.toNat : Nat) : Int) = n := by omega
    refine (fdo_2 g N at_ n x an orr bl wl ra rn co ob BA WA bc wc bs ws w hF hN hr hw hbr hwr hws).mono fun e w' h => ?_
    rcases h with h | ⟨BX, bx, xs, he, hl, hb, ho⟩
    · exact .inl h
    · have hr1 : ({ fn := 2, bl := n.toNat, bs := xs } : TV).right := .inl ⟨rfl, (by dsimp only; decide), by dsimp only; omega, by unfold rangT; dsimp only; omega, by unfold restT; dsimp only; simp⟩
      have hB := backsF_2 n.toNat xs hl hn hr1
      rw [en] at hB
      exact .inr ⟨({ fn := 2, bl := n.toNat, bs := xs } : TV), hr1, ⟨⟨by dsimp only; omega, by dsimp only; omega, by dsimp only; omega, by dsimp only; omega, by dsimp only; omega, by dsimp only; omega, by dsimp only; omega, by dsimp only; omega, by dsimp only; omega, by dsimp only; omega, by dsimp only; omega, by dsimp only; omega, by dsimp only; omega, by dsimp only; omega, by dsimp only; omega, by dsimp only; omega⟩, by dsimp only; omega, by dsimp only; omega, by dsimp only; omega, fun o ho => by cases ho⟩, hB, rfl, BX, bx, none, 0, none, 0, he, hb, Row.nil _ _ _ _, OL.nil, ho⟩
  · have hm : kMostR 3 = 125 := by decide
    have hn : 1 ≤ n.toNat ∧ n.toNat ≤ 125 := by omega
    refine (fdo_3 g N at_ n x an orr bl wl ra rn co ob BA WA bc wc bs ws w hF hN hr hw hbr hwr hws).mono fun e w' h => ?_
    rcases h with h | ⟨WX, wx, zs, he, hz, hl, hb, ho⟩
    · exact .inl h
    · have hr1 : ({ fn := 3, wl := n.toNat, ws := zs } : TV).right := .inl ⟨rfl, (by dsimp only; decide), by dsimp only; omega, by unfold rangT; dsimp only; omega, by unfold restT; dsimp only; simp⟩
      exact .inr ⟨({ fn := 3, wl := n.toNat, ws := zs } : TV), hr1, ⟨⟨by dsimp only; omega, by dsimp only; omega, by dsimp only; omega, by dsimp only; omega, by dsimp only; omega, by dsimp only; omega, by dsimp only; omega, by dsimp only; omega, by dsimp only; omega, by dsimp only; omega, by dsimp only; omega, by dsimp only; omega, by dsimp only; omega, by dsimp only; omega, by dsimp only; omega, by dsimp only; omega⟩, by dsimp only; omega, by dsimp only; omega, by dsimp only; omega, fun o ho => by cases ho⟩, backsF_3 n.toNat zs hl hz hn hr1, rfl, none, 0, WX, wx, none, 0, he, BRow.nil, hb, OL.nil, ho⟩
  · have hm : kMostR 4 = 125 := by decide
    have hn : 1 ≤ n.toNat ∧ n.toNat ≤ 125 := by omega
    refine (fdo_4 g N at_ n x an orr bl wl ra rn co ob BA WA bc wc bs ws w hF hN hr hw hbr hwr hws).mono fun e w' h => ?_
    rcases h with h | ⟨WX, wx, zs, he, hz, hl, hb, ho⟩
    · exact .inl h
    · have hr1 : ({ fn := 4, wl := n.toNat, ws := zs } : TV).right := .inl ⟨rfl, (by dsimp only; decide), by dsimp only; omega, by unfold rangT; dsimp only; omega, by unfold restT; dsimp only; simp⟩
      exact .inr ⟨({ fn := 4, wl := n.toNat, ws := zs } : TV), hr1, ⟨⟨by dsimp only; omega, by dsimp only; omega, by dsimp only; omega, by dsimp only; omega, by dsimp only; omega, by dsimp only; omega, by dsimp only; omega, by dsimp only; omega, by dsimp only; omega, by dsimp only; omega, by dsimp only; omega, by dsimp only; omega, by dsimp only; omega, by dsimp only; omega, by dsimp only; omega, by dsimp only; omega⟩, by dsimp only; omega, by dsimp only; omega, by dsimp only; omega, fun o ho => by cases ho⟩, backsF_4 n.toNat zs hl hz hn hr1, rfl, none, 0, WX, wx, none, 0, he, BRow.nil, hb, OL.nil, ho⟩
  · refine (fdo_5 g N at_ n x an orr bl wl ra rn co ob BA WA bc wc bs ws w hF hN hr hw hbr hwr hws).mono fun e w' h => ?_
    rcases h with h | ⟨he, ho⟩
    · exact .inl h
    · have h1 := hE (by omega)
      have h2 := hf 5
      have h3 := backsF_5 (m := n) at_ n x an orr hW h1
      obtain rfl : n = 0 := by omega
      obtain rfl : an = 0 := by omega
      obtain rfl : orr = 0 := by omega
      exact .inr ⟨_, h1, h2, h3, rfl, none, 0, none, 0, none, 0, he, BRow.nil, Row.nil _ _ _ _, OL.nil, ho⟩
  · refine (fdo_6 g N at_ n x an orr bl wl ra rn co ob BA WA bc wc bs ws w hF hN hr hw hbr hwr hws).mono fun e w' h => ?_
    rcases h with h | ⟨he, ho⟩
    · exact .inl h
    · have h1 := hE (by omega)
      have h2 := hf 6
      have h3 := backsF_6 (m := n) at_ n x an orr hW h1
      obtain rfl : n = 0 := by omega
      obtain rfl : an = 0 := by omega
      obtain rfl : orr = 0 := by omega
      exact .inr ⟨_, h1, h2, h3, rfl, none, 0, none, 0, none, 0, he, BRow.nil, Row.nil _ _ _ _, OL.nil, ho⟩
  · refine (fdo_15 g N at_ n x an orr bl wl ra rn co ob BA WA bc wc bs ws w hF hN hr hw hbr hwr hws).mono fun e w' h => ?_
    rcases h with h | ⟨he, ho⟩
    · exact .inl h
    · have h1 := hE (by omega)
      have h2 := hf 15
      have h3 := backsF_15 (m := n) at_ n x an orr hW h1
      obtain rfl : x = 0 := by omega
      obtain rfl : an = 0 := by omega
      obtain rfl : orr = 0 := by omega
      exact .inr ⟨_, h1, h2, h3, rfl, none, 0, none, 0, none, 0, he, BRow.nil, Row.nil _ _ _ _, OL.nil, ho⟩
  · refine (fdo_16 g N at_ n x an orr bl wl ra rn co ob BA WA bc wc bs ws w hF hN hr hw hbr hwr hws).mono fun e w' h => ?_
    rcases h with h | ⟨he, ho⟩
    · exact .inl h
    · have h1 := hE (by omega)
      have h2 := hf 16
      have h3 := backsF_16 (m := n) at_ n x an orr hW h1
      obtain rfl : x = 0 := by omega
      obtain rfl : an = 0 := by omega
      obtain rfl : orr = 0 := by omega
      exact .inr ⟨_, h1, h2, h3, rfl, none, 0, none, 0, none, 0, he, BRow.nil, Row.nil _ _ _ _, OL.nil, ho⟩
  · refine (fdo_22 g N at_ n x an orr bl wl ra rn co ob BA WA bc wc bs ws w hF hN hr hw hbr hwr hws).mono fun e w' h => ?_
    rcases h with h | ⟨he, ho⟩
    · exact .inl h
    · have h1 := hE (by omega)
      have h2 := hf 22
      have h3 := backsF_22 (m := n) at_ n x an orr hW h1
      obtain rfl : n = 0 := by omega
      obtain rfl : x = 0 := by omega
      exact .inr ⟨_, h1, h2, h3, rfl, none, 0, none, 0, none, 0, he, BRow.nil, Row.nil _ _ _ _, OL.nil, ho⟩
  · have hm : kMostR 23 = 125 := by decide
    have hn : 1 ≤ rn.toNat ∧ rn.toNat ≤ 125 := by omega
    refine (fdo_23 g N at_ n x an orr bl wl ra rn co ob BA WA bc wc bs ws w hF hN hr hw hbr hwr hws).mono fun e w' h => ?_
    rcases h with h | ⟨WX, wx, zs, he, hz, hl, hb, ho⟩
    · exact .inl h
    · have hr1 : ({ fn := 23, wl := rn.toNat, ws := zs } : TV).right := .inl ⟨rfl, (by dsimp only; decide), by dsimp only; omega, by unfold rangT; dsimp only; omega, by unfold restT; dsimp only; simp⟩
      exact .inr ⟨({ fn := 23, wl := rn.toNat, ws := zs } : TV), hr1, ⟨⟨by dsimp only; omega, by dsimp only; omega, by dsimp only; omega, by dsimp only; omega, by dsimp only; omega, by dsimp only; omega, by dsimp only; omega, by dsimp only; omega, by dsimp only; omega, by dsimp only; omega, by dsimp only; omega, by dsimp only; omega, by dsimp only; omega, by dsimp only; omega, by dsimp only; omega, by dsimp only; omega⟩, by dsimp only; omega, by dsimp only; omega, by dsimp only; omega, fun o ho => by cases ho⟩, backsF_23 rn.toNat zs hl hz hn hr1, rfl, none, 0, WX, wx, none, 0, he, BRow.nil, hb, OL.nil, ho⟩
  · exact (fdo_43 g N at_ n x an orr bl wl ra rn co ob BA WA bc wc bs ws w hF hN hr hw hbr hwr hws).mono fun e w' h => .inl h
  · have := hno.known
    rw [hr.1] at this
    cases this

/-- A call of Parse or of TellParse answers these numbers and lists, and this error. -/
def FRes (F : FuncId) (A : Option Addr) (n c : Nat) (m : Int) (fn ex : Int) (bl wl : Nat) (at_ q v an orr co le : Int) (mo : Bool) (nx : Int) (ol : Nat) (bs : List Bool) (ws : List Int) (os : List Ob) (E : Int) (w : World) : Prop :=
  Calls Try.prog F #[.slice A n c, .int .i64 m] w fun e w' => ∃ BA bc WA wc OA oc, e = .returned (.tuple #[.agg #[.int .i64 fn, .int .i64 ex, .slice BA bl bc, .slice WA wl wc, .int .i64 at_, .int .i64 q, .int .u16 v, .int .u16 an, .int .u16 orr, .int .i64 co, .int .i64 le, .bool mo, .int .i64 nx, .slice OA ol oc], .int .i64 E]) ∧
    w'.ownsRow w.heap.size 4 1 (.slice BA bl bc) bl (bs.map Value.bool) ∧ w'.ownsRow w.heap.size 25 1 (.slice WA wl wc) wl (ws.map (Value.int .u16)) ∧ w'.ownsRow w.heap.size 57 2 (.slice OA ol oc) ol (obs os) ∧ Below w.heap.size w w'
theorem fres_got {F : FuncId} {A : Option Addr} {n c : Nat} {m : Int} {t : TV} {w : World} (h : TGot F A n c m t w) : FRes F A n c m t.fn t.ex t.bl t.wl t.at_ t.q t.v t.an t.orr t.co t.le t.mo t.nx t.ol t.bs t.ws t.os 0 w :=
  h.mono fun e w' h => by
    obtain ⟨BA, bc, WA, wc, OA, oc, he, hr, hb⟩ := h
    exact ⟨BA, bc, WA, wc, OA, oc, he, own_mono hr.1 (Nat.le_succ _), own_mono hr.2.1 (Nat.le_succ _), own2_mono hr.2.2 (Nat.le_succ _), hb⟩
/-- The same, in numbers. -/
theorem do_parts {g : Nat} {fn n : Int} {w w' : World} {e : Ending} (h : DoGot g fn n w e w') : DoNo g w e w' ∨
    ∃ (ex : Int) (bl wl : Nat) (at_ q v2 an orr co le : Int) (mo : Bool) (nx : Int) (ol : Nat) (bs : List Bool) (ws : List Int) (os : List Ob) (L : Nat) (E : List Int), bl ≤ 100000 ∧ wl ≤ 100000 ∧ ol ≤ 100000 ∧ 3 ≤ L ∧ L ≤ 253 ∧ E.length = L ∧ E.getD 0 0 = fn ∧
      (∃ BA bc WA wc OA oc, e = .returned (.tuple #[.agg #[.int .i64 fn, .int .i64 ex, .slice BA bl bc, .slice WA wl wc, .int .i64 at_, .int .i64 q, .int .u16 v2, .int .u16 an, .int .u16 orr, .int .i64 co, .int .i64 le, .bool mo, .int .i64 nx, .slice OA ol oc], .bool true]) ∧ BRow w' w'.heap.size BA bl bs ∧ Row .u16 w' w'.heap.size WA wl ws ∧ OL w' w'.heap.size OA ol os ∧ Off (fun k => k = g) w w') ∧
      (∀ W BA bc WA wc OA oc, BRow W W.heap.size BA bl bs → Row .u16 W W.heap.size WA wl ws → OL W W.heap.size OA ol os → Calls Try.prog 7 #[.agg #[.int .i64 fn, .int .i64 ex, .slice BA bl bc, .slice WA wl wc, .int .i64 at_, .int .i64 q, .int .u16 v2, .int .u16 an, .int .u16 orr, .int .i64 co, .int .i64 le, .bool mo, .int .i64 nx, .slice OA ol oc]] W fun e w' =>
        ∃ C cc, e = .returned (.tuple #[.slice (some ⟨C, 0, none⟩) L cc, .int .i64 0]) ∧ L ≤ cc ∧ Row .u8 w' w'.heap.size (some ⟨C, 0, none⟩) L E ∧ Below W.heap.size W w') ∧
      (∀ g c w, Row .u8 w w.heap.size (some ⟨g, 0, none⟩) L E → L ≤ c → FRes 8 (some ⟨g, 0, none⟩) L c n fn ex bl wl at_ q v2 an orr co le mo nx ol bs ws os 0 w) ∧
      ∀ W BA bc WA wc OA oc, BRow W W.heap.size BA bl bs → Row .u16 W W.heap.size WA wl ws → OL W W.heap.size OA ol os → Calls Try.prog 9 #[.agg #[.int .i64 fn, .int .i64 ex, .slice BA bl bc, .slice WA wl wc, .int .i64 at_, .int .i64 q, .int .u16 v2, .int .u16 an, .int .u16 orr, .int .i64 co, .int .i64 le, .bool mo, .int .i64 nx, .slice OA ol oc]] W fun e w' => e = .returned (.bool true) ∧ Below W.heap.size W w' := by
  rcases h with h | ⟨t, hr, hf, ⟨L, E, h3, h253, hx, hl, hE, hb, hp⟩, hfn, hd⟩
  · exact .inl h
  · subst hfn
    exact .inr ⟨t.ex, t.bl, t.wl, t.at_, t.q, t.v, t.an, t.orr, t.co, t.le, t.mo, t.nx, t.ol, t.bs, t.ws, t.os, L, E, hf.bl, hf.wl, hf.ol, h3, h253, hl, hE, hd, hb, fun g c w hrow hc => fres_got (hp g 0 c w ⟨hrow, hc, by omega⟩),
      fun W BA bc WA wc OA oc _ _ h => ptr_any t.fn t.ex t.bl t.wl t.at_ t.q t.v t.an t.orr t.co t.le t.mo t.nx t.ol BA WA OA bc wc oc W _ true hf.wide (fits_any OA t.ol oc t.os W _ h hf.ol hf.sizes rfl) (decide_eq_true hr)⟩

end Go.Proofs.Ytielfekkonflfaa
