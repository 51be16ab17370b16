/- Append onto a row of the call's own, whatever the source; the contract of the document's Put. -/
import Derived.Test.YtnnnaffhajljaaaBytes
import Derived.Maps.AppendAt
import Derived.Laws.BytesArg
namespace Go.Proofs.Ytnnnaffhajljaaa
open Go.RowKit
set_option linter.unusedVariables false

theorem run_append_nil {P : Program} (w : World) (base : Nat) (t ty e : TypeId) (i : TypeInfo) (ht : P.underlying t = some (.slice e)) (hi : P.info? e = some i)
    (v : Value) (n : Nat) (xs : List Value) (hown : w.ownsRow base e 1 v n xs) (c : Nat) : (Builtin.append_ #[t, t] ty #[v, .slice none 0 c]).run P w = .ok v w := by
  rcases hown.2 with ⟨rfl, rfl⟩ | ⟨g, cap, cur, rfl, _, _, hnc, _⟩
  · simp [Builtin.append_, run_underlying ht, sizeOf, typeInfo, hi, Builtin.lenOf, Builtin.firstCells]
  · simp [Builtin.append_, run_underlying ht, sizeOf, typeInfo, hi, Builtin.lenOf, Builtin.firstCells, hnc, storeCells]

theorem run_append_row {P : Program} (w : World) (base : Nat) (t ty e : TypeId) (i : TypeInfo) (z : Value) (bytes : Nat) (ht : P.underlying t = some (.slice e)) (hi : P.info? e = some i) (hz : i.zero = some z)
    (hsize : i.size = 1) (hby : i.bytes = bytes) (hzs : z.cells.size = 1) (v : Value) (n : Nat) (xs : List Value) (hown : w.ownsRow base e 1 v n xs)
    (k : IntKind) (B : Nat) (A : Option Addr) (m c : Nat) (zs : List Int) (hr : Row k w B A m zs) (hm : n + m ≤ maxLen) (hb : (n + m) * bytes ≤ 140737488355328) (hbase : base ≤ w.heap.size) :
    ∃ v' w', (Builtin.append_ #[t, t] ty #[v, .slice A m c]).run P w = .ok v' w' ∧ w'.ownsRow base e 1 v' (n + m) (xs ++ zs.map (Value.int k)) ∧ w.grownBy w' v.ownBlock ∧ (v'.ownBlock = v.ownBlock ∨ v'.ownBlock = some w.heap.size) := by
  rcases A with _ | ad
  · have h0 : m = 0 := by
      rcases Nat.eq_zero_or_pos m with h0 | h0
      · exact h0
      · obtain ⟨b, off, h, _⟩ := hr.2 h0
        cases h
    subst h0
    obtain rfl : zs = [] := List.eq_nil_of_length_eq_zero hr.1
    exact ⟨v, w, run_append_nil w base t ty e i ht hi v n xs hown c, by simpa using hown, World.grownBy.refl w _, .inl rfl⟩
  · have hcells : ∀ j u, (zs.map (Value.int k))[j]? = some u → w.cell? (ad.add j) = some u := by
      intro j u hu
      rcases Nat.eq_zero_or_pos m with h0 | h0
      · subst h0
        obtain rfl : zs = [] := List.eq_nil_of_length_eq_zero hr.1
        simp at hu
      · obtain ⟨ad', h, _, hc⟩ := hr.src h0
        injection h with h
        subst h
        exact hc j u hu
    obtain ⟨v', w', hrun, h2, h3, _, h5⟩ := run_append_own_at (P := P) w base t ty e i z 1 bytes ht hi hz hsize hby hzs (by omega) v n xs hown ad m c (zs.map (Value.int k)) (by rw [List.length_map, hr.1]; omega) hcells (ints_oneCell k zs) hm hb hbase
    exact ⟨v', w', hrun, h2, h3, h5⟩

theorem wpList_append_row {P : Program} (w : World) {ops : Array Oper} {rest : List Oper} {o : Oper} {a : Act} {Q : Exit → Act → World → Prop} (hgd : o.guard = none) (s x : Operand) (t : TypeId)
    (ho : o.op = .call { callee := .builtin .append, args := #[s, x], argTypes := #[t, t] })
    (base : Nat) (e : TypeId) (i : TypeInfo) (z : Value) (bytes : Nat) (ht : P.underlying t = some (.slice e)) (hi : P.info? e = some i) (hz : i.zero = some z)
    (hsize : i.size = 1) (hby : i.bytes = bytes) (hzs : z.cells.size = 1) (v : Value) (n : Nat) (xs : List Value) (hs : a.eval s = v) (hown : w.ownsRow base e 1 v n xs)
    (k : IntKind) (B : Nat) (A : Option Addr) (m c : Nat) (zs : List Int) (hx : a.eval x = .slice A m c) (hr : Row k w B A m zs) (hm : n + m ≤ maxLen) (hb : (n + m) * bytes ≤ 140737488355328) (hbase : base ≤ w.heap.size)
    (h : ∀ v' w', w'.ownsRow base e 1 v' (n + m) (xs ++ zs.map (Value.int k)) → w.grownBy w' v.ownBlock → (v'.ownBlock = v.ownBlock ∨ v'.ownBlock = some w.heap.size) → wpList P ops Q rest (a.put o.dst v') w') : wpList P ops Q (o :: rest) a w := by
  refine wpList_plain hgd fun _ hK => ?_
  obtain ⟨v', w', hrun, h2, h3, h4⟩ := run_append_row (P := P) w base t o.type e i z bytes ht hi hz hsize hby hzs v n xs hown k B A m c zs hr hm hb hbase
  unfold Oper.wp execOp
  simp only [ho, resolve, invoke, builtin, Sem.run_bind, Sem.run_pure, Result.andThen_ok, List.map_toArray, List.map_cons, List.map_nil, hs, hx, hrun]
  exact hK _ _ (h v' w' h2 h3 h4)

theorem row_of_own {w : World} {base : Nat} {e : TypeId} {v : Value} {n : Nat} {k : IntKind} {zs : List Int} (h : w.ownsRow base e 1 v n (zs.map (Value.int k))) (hn : 0 < n) :
    ∃ g cap, v = .slice (some ⟨g, 0, none⟩) n cap ∧ base ≤ g ∧ Row k w w.heap.size (some ⟨g, 0, none⟩) n zs := by
  have hl := h.1
  rcases h.2 with ⟨_, h0⟩ | ⟨g, cap, cur, rfl, hb, hh, hnc, _, hcs, ht⟩
  · omega
  · rw [List.length_map, Nat.mul_one] at hl
    refine ⟨g, cap, rfl, hb, hl, fun _ => ⟨g, 0, rfl, ?_, fun j hj => ?_⟩⟩
    · rcases Nat.lt_or_ge g w.heap.size with hlt | hge
      · exact hlt
      · rw [Array.getElem?_eq_none hge] at hh; cases hh
    · rw [Nat.zero_add, cell_of_row w g j _ _ _ hh]
      have h1 : (List.take (n * 1) cur.toList)[j]? = (zs.map (Value.int k))[j]? := by rw [ht]
      rw [List.getElem?_take, if_pos (by omega)] at h1
      rw [← Array.getElem?_toList, h1]
      simp [hl, hj]

theorem refput_any (A : Option Addr) (n c : Nat) (zs : List Int) (v : Int) (w : World) (hr : Row .u8 w w.heap.size A n zs) (hv0 : 0 ≤ v) (hv1 : v ≤ 65535) (hn : n ≤ 100000) :
    Calls Try.prog 14 #[.slice A n c, .int .u16 v] w fun e w' => ∃ g cap, e = .returned (.slice (some ⟨g, 0, none⟩) (n + 2) cap) ∧ Row .u8 w' w'.heap.size (some ⟨g, 0, none⟩) (n + 2) (zs ++ [v / 256, v % 256]) ∧ Below w.heap.size w w' := by
  obtain ⟨i0, hi0, hz0, hz1, hz2⟩ := info_parts info5
  have HR := Lib.hid hr
  have hown0 : w.ownsRow w.heap.size 5 1 (.slice none 0 0) 0 [] := ⟨by simp, .inl ⟨rfl, rfl⟩⟩
  have HO := Lib.hid hown0
  have HZ : Hid ((Value.int .u8 0).cells.size = 1) := rfl
  have HI0 := Lib.hid hi0
  have HZ0 := Lib.hid hz0
  have HZ1 := Lib.hid hz1
  have HZ2 := Lib.hid hz2
  have hq : IntKind.u16.wrap (v.tdiv 256) = v / 256 := by
    rw [Int.tdiv_eq_ediv_of_nonneg hv0]
    exact IntWalk.u16_in _ (by omega)
  clear hr hown0 hi0 hz0 hz1 hz2
  go_enter Try.func14, Try.ntmps14
  go_wp2_with (first
    | (at_builtin
       refine wpList_append_row _ (o := ⟨some 6, _, _, _, _, _⟩) rfl (.const (.slice none 0 0)) (.tmp 5) 22 rfl w.heap.size 5 i0 _ 1 Try.underlying22 HI0.out HZ0.out HZ1.out HZ2.out HZ.out (.slice none 0 0) 0 [] rfl HO.out .u8 w.heap.size A n c zs rfl HR.out (by simp only [maxLen]; omega) (by omega) (Nat.le_refl _) ?_
       intro v1 w1 hown1 hg1 hat1
       have hb1 : Below w.heap.size w w1 := (Below.refl _ _).grown hg1 (Nat.le_refl _) (by simp [Value.ownBlock])
       have hw : Whole .u8 (w1.alloc (.cells #[.int .u8 (v / 256), .int .u8 (v % 256)] 5)) w1.heap.size 5 [v / 256, v % 256] := heap_alloc_new w1 _
       have HW := Lib.hid hw.row
       have HO1 := Lib.hid (hown1.alloc (o := .cells #[.int .u8 (v / 256), .int .u8 (v % 256)] 5))
       have HB1 := Lib.hid hb1
       have HA1 := Lib.hid hat1
       clear hw hown1 hg1 hat1 hb1)
    | (at_builtin
       refine wpList_append_row _ (o := ⟨some 14, _, _, _, _, _⟩) rfl (.tmp 6) (.tmp 13) 22 rfl w.heap.size 5 i0 _ 1 Try.underlying22 HI0.out HZ0.out HZ1.out HZ2.out HZ.out v1 (0 + n) ([] ++ zs.map (Value.int .u8)) rfl HO1.out .u8 _ (some ⟨w1.heap.size, 0, none⟩) 2 2 [v / 256, v % 256] rfl HW.out (by simp only [maxLen]; omega) (by omega) (by have := HB1.out.size; simp; omega) ?_
       intro v2 w2 hown2 hg2 hat2))
  go_ret
  have hb2 : Below w.heap.size w w2 := (HB1.out.alloc HB1.out.size _).grown hg2 (by have := HB1.out.size; simp; omega) (fun k hk => by
    rcases HA1.out with e | e
    · rw [e] at hk; simp [Value.ownBlock] at hk
    · rw [e] at hk; injection hk with hk; omega)
  have hown3 : w2.ownsRow w.heap.size 5 1 v2 (n + 2) ((zs ++ [v / 256, v % 256]).map (Value.int .u8)) := by
    have := hown2
    simpa using this
  obtain ⟨g, cap, rfl, _, hrow⟩ := row_of_own hown3 (by omega)
  exact ⟨g, cap, rfl, hrow, hb2⟩

end Go.Proofs.Ytnnnaffhajljaaa
