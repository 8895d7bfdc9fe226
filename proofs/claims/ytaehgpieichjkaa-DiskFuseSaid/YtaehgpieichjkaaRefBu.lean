/-
  The document's own disk: Burst.
-/
import Derived.Test.YtaehgpieichjkaaRefB4
namespace Go.Proofs.Ytaehgpieichjkaa
set_option linter.unusedVariables false
set_option linter.unusedSimpArgs false
open Go.RowKit

def burstN (b : List Int) (a : Nat) (x : B32) : Nat → List Int
  | 0 => b
  | j + 1 => (burstN b a x j).set (a + j) (xorB (b.getD (a + j) 0) (byteOf x j))
theorem burstN_four (b : List Int) (a : Nat) (x : B32) : burstN b a x 4 = burstB b a x := rfl
theorem burstN_length (b : List Int) (a : Nat) (x : B32) : ∀ j, (burstN b a x j).length = b.length
  | 0 => rfl
  | j + 1 => by unfold burstN; rw [List.length_set]; exact burstN_length b a x j
theorem burstN_at (b : List Int) (a : Nat) (x : B32) (i : Nat) (hi : i < b.length) : ∀ j, a + j ≤ i → (burstN b a x j).getD i 0 = b.getD i 0
  | 0, _ => rfl
  | j + 1, h => by
    unfold burstN
    rw [getD_setL _ _ _ _ _ (by rw [burstN_length]; exact hi), if_neg (by omega)]
    exact burstN_at b a x i hi j (by omega)

theorem runburst_any (F : Nat → Prop) (r : Nat) (t : Dk) (p : RefP) (i a : Int) (x : B32) (w : World) (h : RefL w F r t p) (h0 : -9223372036854775808 ≤ i) (h1 : i ≤ 9223372036854775807) (h2 : -9223372036854775808 ≤ a) (h3 : a ≤ 9223372036854775807) (hi : i < 0 ∨ t.blk.length ≤ i ∨ a < 0 ∨ 124 < a ∨ t.wt ≠ []) (hw : t.wt.length ≤ 1000000) :
    Calls Try.prog 23 #[.pointer (some ⟨r, 0, none⟩), .int .i64 i, .int .i64 a, .int .u32 (wrd x)] w fun e w' => e = .returned (.bool false) ∧ w' = w := by
  have c0 : w.cell? ⟨r, 0, none⟩ = some (.slice p.AB t.blk.length p.cB) := h.st.cell 0
  have c2 : w.cell? ⟨r, 2, none⟩ = some (.slice p.AA t.wt.length p.cA) := h.st.cell 2
  have l2 := h.ok.n2
  have hq : t.wt ≠ [] → 0 < t.wt.length := fun e => by
    rcases Nat.eq_zero_or_pos t.wt.length with k | k
    · exact absurd (List.eq_nil_of_length_eq_zero k) e
    · exact k
  have hi : i < 0 ∨ t.blk.length ≤ i ∨ a < 0 ∨ 124 < a ∨ 0 < t.wt.length := by
    rcases hi with k | k | k | k | k
    · exact Or.inl k
    · exact Or.inr (Or.inl k)
    · exact Or.inr (Or.inr (Or.inl k))
    · exact Or.inr (Or.inr (Or.inr (Or.inl k)))
    · exact Or.inr (Or.inr (Or.inr (Or.inr (hq k))))
  clear h hq
  generalize t.blk.length = m at *
  generalize t.wt.length = q at *
  go_enter Try.func23, Try.ntmps23
  by_cases t1 : i < 0
  · have d1 : decide (i < 0) = true := by simpa using t1
    go_wp2
    go_ret
    exact ⟨rfl, rfl⟩
  have d1 : decide (i < 0) = false := by simpa using t1
  by_cases t2 : (m : Int) ≤ i
  · have d2 : decide ((m : Int) ≤ i) = true := by simpa using t2
    go_wp2
    go_ret
    exact ⟨rfl, rfl⟩
  have d2 : decide ((m : Int) ≤ i) = false := by simpa using t2
  by_cases t3 : a < 0
  · have d3 : decide (a < 0) = true := by simpa using t3
    go_wp2
    go_ret
    exact ⟨rfl, rfl⟩
  have d3 : decide (a < 0) = false := by simpa using t3
  by_cases t4 : 124 < a
  · have d4 : decide (124 < a) = true := by simpa using t4
    go_wp2
    go_ret
    exact ⟨rfl, rfl⟩
  have d4 : decide (124 < a) = false := by simpa using t4
  have d5 : decide ((0 : Int) < (q : Int)) = true := by rw [decide_eq_true_eq]; omega
  have d6 : decide (0 < q) = true := by rw [decide_eq_true_eq]; omega
  go_wp2
  go_ret
  exact ⟨rfl, rfl⟩
/-- One of its blocks is new. -/
theorem RefL.newBlk {w w1 : World} {F : Nat → Prop} {r : Nat} {t : Dk} {p : RefP} (h : RefL w F r t p) (i gb gn cn : Nat) (xs : List Int) (hi : i < t.blk.length) (hb : Below w.heap.size w w1) (eb : p.AB = some ⟨gb, 0, none⟩) (ho : Own w1 w.heap.size gn cn xs) (hx : IsBlk xs) :
    RStep F r { t with blk := t.blk.set i xs } w (w1.setCell ⟨gb, i, none⟩ (.slice (some ⟨gn, 0, none⟩) 128 cn)) := by
  have hs : (w1.setCell ⟨gb, i, none⟩ (.slice (some ⟨gn, 0, none⟩) 128 cn)).heap.size = w1.heap.size := setCell_size _ _ _
  have s1 := hb.size
  have kG : Keep (· = gb) w (w1.setCell ⟨gb, i, none⟩ (.slice (some ⟨gn, 0, none⟩) 128 cn)) := (Keep.of_below (F := (· = gb)) hb).setCell (a := ⟨gb, i, none⟩) rfl _
  have rB := h.rB
  rw [eb] at rB
  obtain ⟨cb, xb⟩ := rB.heap
  have hG8 : ∀ g cur, w.heap[g]? = some (.cells cur 5 (0, 0)) → ¬ (g = gb) := fun g cur e k => by
    subst k
    exact kinds_ne e xb (by decide)
  have hgn := ho.lt
  have og : Own (w1.setCell ⟨gb, i, none⟩ (.slice (some ⟨gn, 0, none⟩) 128 cn)) 0 gn cn xs := by
    have l1 : gb < w.heap.size := h.rB.lt _ eb
    have o3 := ho.far (h := gb) (k := i) (by omega) (.slice (some ⟨gn, 0, none⟩) 128 cn)
    have o4 : RowO (w1.setCell ⟨gb, i, none⟩ (.slice (some ⟨gn, 0, none⟩) 128 cn)) w.heap.size 5 (some ⟨gn, 0, none⟩) cn (vals xs) := by unfold RowO; rw [vals_length]; exact o3.1
    exact Own.of_row (RowO.of o4.row (fun _ _ => Nat.zero_le _)) hx.2
  have ok : ({ t with blk := t.blk.set i xs } : Dk).Ok := by
    refine ⟨by simp; exact h.ok.n1, by simp; exact h.ok.n2, by simp; exact h.ok.nb, fun j hj => ?_, fun q hq => by simp; exact h.ok.wts q hq, h.ok.f0, h.ok.f1⟩
    have hj : j < t.blk.length := by simpa using hj
    show IsBlk ((t.blk.set i xs).getD j [])
    rw [getD_setL _ _ _ _ _ hj]
    split
    · exact hx
    · exact h.ok.blks j hj
  refine ⟨fun j => F j ∨ (w.heap.size ≤ j ∧ j < w1.heap.size), ⟨{ p with bs := p.bs.set i (.slice (some ⟨gn, 0, none⟩) 128 cn) }, ?_⟩, ⟨kG.os, kG.tape, kG.output, kG.size, fun j hj hn => kG.block j hj (fun e => hn (by rw [e]; exact h.fB _ eb))⟩, fun j hj => hj.imp id And.left⟩
  refine ⟨ok, ?_, ?_, ?_, fun j hj => ?_, ?_, ?_, ?_, h.lW, fun j hj => (h.eW j hj).keepG kG hG8 (fun _ hg => Or.inl hg), Or.inl h.fr, fun x ex => Or.inl (h.fB x ex), fun x ex => Or.inl (h.fD x ex), fun x ex => Or.inl (h.fA x ex), fun x ex => Or.inl (h.fW x ex), h.ne, fun j hj => ?_⟩
  · have e : refCells { t with blk := t.blk.set i xs } { p with bs := p.bs.set i (.slice (some ⟨gn, 0, none⟩) 128 cn) } = refCells t p := by
      unfold refCells
      simp only [List.length_set]
    rw [e]
    exact h.st.same (kG.block r h.st.lt (fun k => h.rB.ne_arr h.st (by decide) _ eb k.symm))
  · show RowA _ _ p.AB p.cB (p.bs.set i _)
    rw [eb]
    exact (rB.below hb).set i _
  · show (p.bs.set i _).length = (t.blk.set i xs).length
    rw [List.length_set, List.length_set]; exact h.lB
  · have hj : j < t.blk.length := by simpa using hj
    show BlkAt _ _ ((p.bs.set i _).getD j undef) ((t.blk.set i xs).getD j [])
    rw [getD_setL _ _ _ _ _ (by rw [h.lB]; exact hj), getD_setL _ _ _ _ _ hj]
    by_cases e : i = j
    · rw [if_pos e, if_pos e]
      exact ⟨gn, cn, rfl, Or.inr hgn, og, hx.1⟩
    · rw [if_neg e, if_neg e]
      exact (h.eB j hj).keepG kG hG8 (fun _ hg => Or.inl hg)
  · exact h.rD.same (fun x ex => kG.block _ (h.rD.lt x ex) (fun e => h.rB.apart h.rD (by decide) _ x eb ex e.symm))
  · exact h.rA.same (fun x ex => kG.block _ (h.rA.lt x ex) (fun e => h.rB.apart h.rA (by decide) _ x eb ex e.symm))
  · exact h.rW.same (fun x ex => kG.block _ (h.rW.lt x ex) (fun e => h.ne _ x eb ex e.symm))
  · rw [hs]
    rcases hj with hj | hj
    · have := h.lt j hj; omega
    · exact hj.2

set_option maxRecDepth 100000 in
set_option maxHeartbeats 4000000 in
theorem rburst_any (F : Nat → Prop) (r : Nat) (t : Dk) (p : RefP) (i a : Nat) (X : B32) (w : World) (h : RefL w F r t p) (hi : i < t.blk.length) (ha : a ≤ 124) (hw : t.wt = []) :
    Calls Try.prog 23 #[.pointer (some ⟨r, 0, none⟩), .int .i64 i, .int .i64 a, .int .u32 (wrd X)] w fun e w' => e = .returned (.bool true) ∧ RStep F r (t.burst i a X) w w' := by
  have c0 : w.cell? ⟨r, 0, none⟩ = some (.slice p.AB t.blk.length p.cB) := h.st.cell 0
  have c2 : w.cell? ⟨r, 2, none⟩ = some (.slice p.AA t.wt.length p.cA) := h.st.cell 2
  rw [hw] at c2
  have l2 := h.ok.n2
  have hrl : r < w.heap.size := h.st.lt
  obtain ⟨x0, x1⟩ := u32_bd X
  obtain ⟨gb, eb, hgb⟩ := h.rB.at (by rw [h.lB]; omega)
  have yb := (hgb i).2 (by rw [h.lB]; exact hi)
  rw [getD_at _ _ undef (by rw [h.lB]; exact hi)] at yb
  have fb := (hgb i).1
  rw [eb] at c0
  obtain ⟨g, c, e1, _, o1, _⟩ := h.eB i hi
  rw [e1] at yb
  have hx := h.ok.blks i hi
  have O1 := Lib.hid o1; have HX := Lib.hid hx; have H := Lib.hid h
  have LX : Hid ((vals (t.blk.getD i [])).length = 128) := Lib.hid (by rw [vals_length]; exact hx.1)
  have gl : gb < w.heap.size := h.rB.lt _ eb
  have gl2 : g < w.heap.size := o1.lt.2
  have BU : Hid (t.burst i a X = { t with blk := t.blk.set i (burstB (t.blk.getD i []) a X) }) := Lib.hid rfl
  have HI := Lib.hid hi
  have d1 : decide (t.blk.length ≤ i) = false := by rw [decide_eq_false_iff_not]; omega
  have i1 : (i : Int) < (t.blk.length : Int) := by omega
  clear e1 o1 hx hgb h hi hw
  generalize hm : t.blk.length = m at *
  have HM := Lib.hid hm
  clear hm
  generalize t.blk.getD i [] = xs at *
  go_enter Try.func23, Try.ntmps23
  go_wp2_with (at_builtin; go_loud (refine app_row _ rfl _ _ 26 5 rfl Try.underlying26 (.int .u8 0) 1 Try.info_byte rfl (by decide) w.heap.size _ 0 0 [] rfl rfl (RowO.empty w _ _ (Nat.le_refl _)) (some ⟨g, 0, none⟩) 128 c _ LX.out rfl (((O1.out.alloc _).reads).src (fun e => by cases e)) (vals_one xs) (by omega) (fun _ e => by cases e) (by simp) ?_))
  intro A7 c7 w7 o7 g7 n7
  obtain ⟨gn, rfl⟩ : ∃ gb, A7 = some ⟨gb, 0, none⟩ := by
    rcases o7.row.parts with ⟨e, _⟩ | ⟨g, cur, e, _⟩
    · exact absurd e n7
    · exact ⟨g, e⟩
  have b7 : Below w.heap.size w w7 := Below.grown (Below.alloc (Below.refl _ w) (Nat.le_refl _) (.cells #[] 5)) g7 (by simp) (own_ge (RowO.empty w 5 w.heap.size (Nat.le_refl _)) (Nat.le_refl _))
  have O7 := Lib.hid (Own.of_row o7 HX.out.2); have B7 := Lib.hid b7
  have gng : w.heap.size ≤ gn := O7.out.lt.1
  clear o7 g7 n7 b7
  go_wp2
  go_loopw [10, 47] (fun _ jv wr => ∃ j : Nat, j ≤ 4 ∧ jv = .int .i64 (j : Int) ∧ Own wr w.heap.size gn c7 (burstN xs a X j) ∧ Below w.heap.size w wr) (fun _ jv _ => 4 - (intOf jv).toNat)
  case atStart => exact ⟨0, Nat.zero_le _, rfl, O7.out, B7.out⟩
  case round =>
    obtain ⟨j, hj, rfl, hO, hB⟩ := hrel
    have HO := Lib.hid hO; have HB := Lib.hid hB
    clear hO hB O7 B7
    by_cases hlt : j < 4
    · have hl : (burstN xs a X j).length = 128 := by rw [burstN_length]; exact HX.out.1
      have yc := HO.out.cell (k := a + j) (by rw [hl]; omega)
      rw [burstN_at xs a X (a + j) (by rw [HX.out.1]; omega) j (Nat.le_refl _)] at yc
      have fc := HO.out.frozen (a + j)
      obtain ⟨s, hs⟩ : ∃ s : Nat, s = a + j := ⟨_, rfl⟩
      have NX : Hid (Own (wr.setCell ⟨gn, s, none⟩ (.int .u8 (xorB (xs.getD s 0) (byteOf X j)))) w.heap.size gn c7 (burstN xs a X (j + 1))) := Lib.hid (by rw [hs]; exact HO.out.set (a + j) _ (xorB_U8 _ _))
      rw [← hs] at yc fc
      have e2 : IntKind.i64.wrap ((a : Int) + (j : Int)) = (s : Int) := by rw [IntKind.wrap_i64]; omega
      have s1 : (0 : Int) ≤ (s : Int) := by omega
      have s2 : (s : Int) < 128 := by omega
      have HS := Lib.hid hs
      have hu := HX.out.2 s (by rw [HX.out.1]; omega)
      obtain ⟨v0, v1⟩ := id hu
      rw [← xor_u8] at NX
      obtain ⟨d0, d1', d2, d3, hd, ⟨⟨p0, q0⟩, ⟨p1, q1⟩, ⟨p2, q2⟩, p3, q3⟩, r0, r1, r2, r3⟩ := bytes_of X
      unfold le4 at hd
      injection hd with h0 hd
      injection hd with h1 hd
      injection hd with h2 hd
      injection hd with h3 hd
      clear hl hs hd HO hu
      generalize xs.getD s 0 = y at *
      rcases j with _ | _ | _ | _ | j
      · rw [h0] at NX
        clear h0 h1 h2 h3
        obtain ⟨v, hv⟩ : ∃ v, bits .xor .u8 y d0 = v := ⟨_, rfl⟩
        rw [hv] at NX
        obtain rfl : s = a := HS.out
        clear e2
        go_wp2_with fail
        go_region
        all_goals
          go_wp2
          go_roundw
          case rel => exact ⟨1, by omega, by go_num, NX.out.drew, (HB.out.setCell gng _).drew⟩
          case measure => simp [intOf]
      · rw [h1] at NX
        clear h0 h1 h2 h3
        obtain ⟨v, hv⟩ : ∃ v, bits .xor .u8 y d1' = v := ⟨_, rfl⟩
        rw [hv] at NX
        have e3 : IntKind.i64.wrap ((a : Int) + 1) = (s : Int) := e2
        go_wp2_with fail
        go_region
        all_goals
          go_wp2
          go_roundw
          case rel => exact ⟨2, by omega, by go_num, NX.out.drew, (HB.out.setCell gng _).drew⟩
          case measure => simp [intOf]
      · rw [h2] at NX
        clear h0 h1 h2 h3
        obtain ⟨v, hv⟩ : ∃ v, bits .xor .u8 y d2 = v := ⟨_, rfl⟩
        rw [hv] at NX
        have e3 : IntKind.i64.wrap ((a : Int) + 2) = (s : Int) := e2
        go_wp2_with fail
        go_region
        all_goals
          go_wp2
          go_roundw
          case rel => exact ⟨3, by omega, by go_num, NX.out.drew, (HB.out.setCell gng _).drew⟩
          case measure => simp [intOf]
      · rw [h3] at NX
        clear h0 h1 h2 h3
        obtain ⟨v, hv⟩ : ∃ v, bits .xor .u8 y d3 = v := ⟨_, rfl⟩
        rw [hv] at NX
        have e3 : IntKind.i64.wrap ((a : Int) + 3) = (s : Int) := e2
        go_wp2_with fail
        go_region
        all_goals
          go_wp2
          go_roundw
          case rel => exact ⟨4, by omega, by go_num, NX.out.drew, (HB.out.setCell gng _).drew⟩
          case measure => simp [intOf]
      · omega
    · obtain rfl : j = 4 := by omega
      have y0 : wr.cell? ⟨r, 0, none⟩ = some (.slice (some ⟨gb, 0, none⟩) m p.cB) := (HB.out.cell (p := ⟨r, 0, none⟩) hrl).trans c0
      have y1 := (HB.out.cell (p := ⟨gb, i, none⟩) gl).trans yb
      have y2 : wr.frozen? ⟨gb, i, none⟩ = false := (HB.out.frozen (p := ⟨gb, i, none⟩) gl).trans fb
      clear c0 c2 yb fb
      go_wp2
      go_ret
      refine ⟨rfl, ?_⟩
      rw [BU.out]
      exact H.out.newBlk i gb gn c7 _ (by rw [HM.out]; exact HI.out) HB.out eb HO.out (HX.out.burst a X)
end Go.Proofs.Ytaehgpieichjkaa
