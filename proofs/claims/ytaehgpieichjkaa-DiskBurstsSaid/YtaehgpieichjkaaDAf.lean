/-
  The program's disk: Burst.
-/
import Derived.Test.YtaehgpieichjkaaDAe
import Derived.Test.YtaehgpieichjkaaRefBu
namespace Go.Proofs.Ytaehgpieichjkaa
set_option linter.unusedVariables false
set_option linter.unusedSimpArgs false
open Go.RowKit

theorem IsBlk.burstN {ys : List Int} (h : IsBlk ys) (a : Nat) (x : B32) : ∀ j, IsBlk (burstN ys a x j)
  | 0 => h
  | j + 1 => (IsBlk.burstN h a x j).set (a + j) _ (xorB_U8 _ _)
/-- A byte of a block is written anew. -/
theorem Lay.byte {w : World} {F : Nat → Prop} {b : Nat} {s : Dk} {g cb : Nat} {A : Option Addr} {c : Nat} (h : Lay w F b s g cb A c) (i k : Nat) (v : Int) (hi : i < s.blk.length) (hk : k < 128) (hv : U8 v) (ok : Dk.Ok { s with blk := s.blk.set i ((s.blk.getD i []).set k v) }) :
    Lay (w.setCell ⟨g, i * 129 + k, none⟩ (.int .u8 v)) F b { s with blk := s.blk.set i ((s.blk.getD i []).set k v) } g cb A c where
  ok := ok
  st := by
    have e : dkCells { s with blk := s.blk.set i ((s.blk.getD i []).set k v) } g cb A c = dkCells s g cb A c := by unfold dkCells; simp only [List.length_set]
    rw [e]
    exact h.st.same (Below.heap_setCell _ _ _ _ (fun e => h.bg e.symm))
  rb := by
    have h2 := h.rb.set (i * 129 + k) (.int .u8 v)
    rw [(bl_even h.ok).put i k _ (by rw [bl_len h.ok]; exact hi) (by omega), bl_getD h.ok i hi] at h2
    have e : (vals (s.blk.getD i []) ++ [Value.bool (s.bad.getD i false)]).set k (.int .u8 v) = vals ((s.blk.getD i []).set k v) ++ [Value.bool (s.bad.getD i false)] := by
      rw [List.set_append_left _ _ (by rw [vals_length, (h.ok.blks i hi).1]; exact hk), vals_set]
    rw [e, ← bl_byte h.ok i _ hi] at h2
    simp only [List.length_set]
    exact h2
  rw' := h.rw'.other h.gA _
  fb := h.fb
  fg := h.fg
  fA := h.fA
  lt := fun j hj => by rw [setCell_size]; exact h.lt j hj
theorem Dk.Ok.blkset {s : Dk} (h : s.Ok) (i : Nat) (ys : List Int) (hy : IsBlk ys) : Dk.Ok { s with blk := s.blk.set i ys } := by
  refine ⟨by simp only [List.length_set]; exact h.n1, by simp only [List.length_set]; exact h.n2, by simp only [List.length_set]; exact h.nb, fun j hj => ?_, fun q hq => by simp only [List.length_set]; exact h.wts q hq, h.f0, h.f1⟩
  simp only [List.length_set] at hj
  show IsBlk ((s.blk.set i ys).getD j [])
  rw [getD_setL _ _ _ _ _ hj]
  split
  · exact hy
  · exact h.blks j hj

set_option maxRecDepth 100000 in
set_option maxHeartbeats 2000000 in
theorem unburst_any (F : Nat → Prop) (b : Nat) (s : Dk) (g cb : Nat) (A : Option Addr) (c : Nat) (i a : Int) (x : B32) (w : World) (h : Lay w F b s g cb A c) (h0 : -9223372036854775808 ≤ i) (h1 : i ≤ 9223372036854775807) (h2 : -9223372036854775808 ≤ a) (h3 : a ≤ 9223372036854775807) (hi : i < 0 ∨ s.blk.length ≤ i ∨ a < 0 ∨ 124 < a ∨ s.wt ≠ []) (hw : s.wt.length ≤ 1000000) :
    Calls Try.prog 22 #[.pointer (some ⟨b, 0, none⟩), .int .i64 i, .int .i64 a, .int .u32 (wrd x)] w fun e w' => e = .returned (.bool false) ∧ w' = w := by
  have c0 : w.cell? ⟨b, 0, none⟩ = some (.slice (some ⟨g, 0, none⟩) s.blk.length cb) := h.st.cell 0
  have c1 : w.cell? ⟨b, 1, none⟩ = some (.slice A s.wt.length c) := h.st.cell 1
  have hne : s.wt ≠ [] ↔ 0 < s.wt.length := by rw [List.length_pos_iff]
  rw [hne] at hi
  have HS := Lib.hid (has_any w b s.blk.length _ cb i c0 h.ok.n2 h0 h1)
  have n2 := h.ok.n2
  clear h hne
  generalize s.blk.length = m at *
  generalize s.wt.length = q at *
  generalize wrd x = wx at *
  go_enter Try.func22, Try.ntmps22
  go_wp2_with fail
  refine HS.out.mono ?_
  rintro e w1 ⟨rfl, rfl⟩
  by_cases t0 : 0 ≤ i ∧ i < (m : Int)
  · have d0 : decide (0 ≤ i ∧ i < (m : Int)) = true := by simpa using t0
    rw [d0]
    by_cases t1 : a < 0
    · have d1 : decide (a < 0) = true := by simpa using t1
      go_wp2
      go_ret
      exact ⟨rfl, rfl⟩
    · have d1 : decide (a < 0) = false := by simpa using t1
      by_cases t2 : 124 < a
      · have d2 : decide (124 < a) = true := by simpa using t2
        have d3 : decide (a > 124) = true := by simpa using t2
        go_wp2
        go_ret
        exact ⟨rfl, rfl⟩
      · have d2 : decide (124 < a) = false := by simpa using t2
        have d3 : decide (a > 124) = false := by simpa using t2
        have d4 : decide (0 < (q : Int)) = true := by rw [decide_eq_true_eq]; omega
        have d5 : decide ((q : Int) > 0) = true := by rw [decide_eq_true_eq]; omega
        go_wp2
        go_ret
        exact ⟨rfl, rfl⟩
  · have d0 : decide (0 ≤ i ∧ i < (m : Int)) = false := by simpa using t0
    rw [d0]
    go_wp2
    go_ret
    exact ⟨rfl, rfl⟩

set_option maxRecDepth 100000 in
set_option maxHeartbeats 4000000 in
theorem burst_any (F : Nat → Prop) (b : Nat) (s : Dk) (g cb : Nat) (A : Option Addr) (c : Nat) (i a : Nat) (X : B32) (w : World) (h : Lay w F b s g cb A c) (hi : i < s.blk.length) (ha : a ≤ 124) (hw : s.wt = []) :
    Calls Try.prog 22 #[.pointer (some ⟨b, 0, none⟩), .int .i64 i, .int .i64 a, .int .u32 (wrd X)] w fun e w' => e = .returned (.bool true) ∧ Step F b (s.burst i a X) w w' := by
  have c0 : w.cell? ⟨b, 0, none⟩ = some (.slice (some ⟨g, 0, none⟩) s.blk.length cb) := h.st.cell 0
  have c1 : w.cell? ⟨b, 1, none⟩ = some (.slice A s.wt.length c) := h.st.cell 1
  rw [hw] at c1
  have n2 := h.ok.n2
  obtain ⟨x0, x1⟩ := u32_bd X
  have HS := Lib.hid (has_any w b s.blk.length _ cb (i : Int) c0 h.ok.n2 (by omega) (by omega))
  have hx := h.ok.blks i hi
  have S0 : Hid (Lay w F b { s with blk := s.blk.set i (burstN (s.blk.getD i []) a X 0) } g cb A c) := Lib.hid (by
    have e : { s with blk := s.blk.set i (burstN (s.blk.getD i []) a X 0) } = s := by
      show { s with blk := s.blk.set i (s.blk.getD i []) } = s
      rw [set_self _ _ _ hi]
    rw [e]
    exact h)
  have HX := Lib.hid hx; have H := Lib.hid h
  have BU : Hid (s.burst i a X = { s with blk := s.blk.set i (burstN (s.blk.getD i []) a X 4) }) := Lib.hid rfl
  have HI := Lib.hid hi
  have i0 : (0 : Int) ≤ (i : Int) := by omega
  have i1 : (i : Int) < (s.blk.length : Int) := by omega
  have d0 : decide (0 ≤ (i : Int) ∧ (i : Int) < (s.blk.length : Int)) = true := by rw [decide_eq_true_eq]; omega
  have d1 : decide ((a : Int) < 0) = false := by rw [decide_eq_false_iff_not]; omega
  have d2 : decide ((124 : Int) < (a : Int)) = false := by rw [decide_eq_false_iff_not]; omega
  have d3 : decide ((a : Int) > 124) = false := by rw [decide_eq_false_iff_not]; omega
  rw [d0] at HS
  clear hx h hi hw d0
  generalize hm : s.blk.length = m at *
  have HM := Lib.hid hm
  clear hm
  generalize s.blk.getD i [] = xs at *
  go_enter Try.func22, Try.ntmps22
  go_wp2_with fail
  refine HS.out.mono ?_
  rintro e w1 ⟨rfl, rfl⟩
  go_wp2
  go_loopw [9, 30] (fun _ jv wr => ∃ j : Nat, j ≤ 4 ∧ jv = .int .i64 (j : Int) ∧ Lay wr F b { s with blk := s.blk.set i (burstN xs a X j) } g cb A c ∧ Keep F w1 wr) (fun _ jv _ => 4 - (intOf jv).toNat)
  case atStart => exact ⟨0, Nat.zero_le _, rfl, S0.out, Keep.refl _ _⟩
  case round =>
    obtain ⟨j, hj, rfl, hO, hB⟩ := hrel
    have HO := Lib.hid hO; have HB := Lib.hid hB
    clear hO hB S0 c0 c1 HS
    by_cases hlt : j < 4
    · have hib : i < (s.blk.set i (burstN xs a X j)).length := by rw [List.length_set, HM.out]; exact HI.out
      have eg : (s.blk.set i (burstN xs a X j)).getD i [] = burstN xs a X j := by rw [List.getD_eq_getElem?_getD, List.getElem?_set_self (by rw [HM.out]; exact HI.out)]; rfl
      have hr := HO.out.rb.range (bl_even HO.out.ok) (bl_len HO.out.ok) i hib
      rw [bl_getD HO.out.ok i hib] at hr
      have hr : wr.rangeAt g (i * 129) (vals ((s.blk.set i (burstN xs a X j)).getD i []) ++ [Value.bool (s.bad.getD i false)]) := hr
      rw [eg] at hr
      have yc := hr (a + j) (.int .u8 (xs.getD (a + j) 0)) (by
        rw [List.getElem?_append_left (by rw [vals_length, burstN_length, HX.out.1]; omega), vals_at _ _ (by rw [burstN_length, HX.out.1]; omega), burstN_at xs a X (a + j) (by rw [HX.out.1]; omega) j (Nat.le_refl _)])
      have fc := (HO.out.rb.there (bl_even HO.out.ok) (bl_len HO.out.ok) i hib (a + j) (by omega)).2
      have m0 : wr.cell? ⟨b, 0, none⟩ = some (.slice (some ⟨g, 0, none⟩) (s.blk.set i (burstN xs a X j)).length cb) := HO.out.st.cell 0
      rw [List.length_set, HM.out] at m0
      have NX : Hid (Lay (wr.setCell ⟨g, i * 129 + (a + j), none⟩ (.int .u8 (xorB (xs.getD (a + j) 0) (byteOf X j)))) F b { s with blk := s.blk.set i (burstN xs a X (j + 1)) } g cb A c) := Lib.hid (by
        have e : { s with blk := s.blk.set i (burstN xs a X (j + 1)) } = { s with blk := (s.blk.set i (burstN xs a X j)).set i (((s.blk.set i (burstN xs a X j)).getD i []).set (a + j) (xorB (xs.getD (a + j) 0) (byteOf X j))) } := by
          rw [eg, List.set_set]; rfl
        rw [e]
        refine HO.out.byte i (a + j) _ hib (by omega) (xorB_U8 _ _) ?_
        rw [← e]
        exact H.out.ok.blkset i _ (HX.out.burstN a X (j + 1)))
      obtain ⟨t, hs⟩ : ∃ t : Nat, t = a + j := ⟨_, rfl⟩
      rw [← hs] at yc fc NX
      have KX : Hid (∀ v, Keep F w1 (wr.setCell ⟨g, i * 129 + t, none⟩ v)) := Lib.hid (fun v => HB.out.setCell (a := ⟨g, i * 129 + t, none⟩) H.out.fg v)
      have e2 : IntKind.i64.wrap ((a : Int) + (j : Int)) = (t : Int) := by rw [IntKind.wrap_i64]; omega
      have s1 : (0 : Int) ≤ (t : Int) := by omega
      have s2 : (t : Int) < 128 := by omega
      have HT := Lib.hid hs
      have hu := HX.out.2 t (by rw [HX.out.1]; omega)
      obtain ⟨v0, v1⟩ := id hu
      rw [← xor_u8] at NX
      obtain ⟨e0, e1', e2', e3', hd, ⟨⟨p0, q0⟩, ⟨p1, q1⟩, ⟨p2, q2⟩, p3, q3⟩, r0, r1, r2, r3⟩ := bytes_of X
      unfold le4 at hd
      injection hd with h0 hd
      injection hd with h1 hd
      injection hd with h2 hd
      injection hd with h3 hd
      clear hr hs hd HO hu eg hib
      generalize xs.getD t 0 = y at *
      rcases j with _ | _ | _ | _ | j
      · rw [h0] at NX
        clear h0 h1 h2 h3
        obtain ⟨v, hv⟩ : ∃ v, bits .xor .u8 y e0 = v := ⟨_, rfl⟩
        rw [hv] at NX
        obtain rfl : t = a := HT.out
        clear e2
        go_wp2_with fail
        go_region
        all_goals
          go_wp2
          go_roundw
          case rel => exact ⟨1, by omega, by go_num, NX.out.stay (fun _ _ => rfl), (KX.out _).drew⟩
          case measure => simp [intOf]
      · rw [h1] at NX
        clear h0 h1 h2 h3
        obtain ⟨v, hv⟩ : ∃ v, bits .xor .u8 y e1' = v := ⟨_, rfl⟩
        rw [hv] at NX
        have e3 : IntKind.i64.wrap ((a : Int) + 1) = (t : Int) := e2
        go_wp2_with fail
        go_region
        all_goals
          go_wp2
          go_roundw
          case rel => exact ⟨2, by omega, by go_num, NX.out.stay (fun _ _ => rfl), (KX.out _).drew⟩
          case measure => simp [intOf]
      · rw [h2] at NX
        clear h0 h1 h2 h3
        obtain ⟨v, hv⟩ : ∃ v, bits .xor .u8 y e2' = v := ⟨_, rfl⟩
        rw [hv] at NX
        have e3 : IntKind.i64.wrap ((a : Int) + 2) = (t : Int) := e2
        go_wp2_with fail
        go_region
        all_goals
          go_wp2
          go_roundw
          case rel => exact ⟨3, by omega, by go_num, NX.out.stay (fun _ _ => rfl), (KX.out _).drew⟩
          case measure => simp [intOf]
      · rw [h3] at NX
        clear h0 h1 h2 h3
        obtain ⟨v, hv⟩ : ∃ v, bits .xor .u8 y e3' = v := ⟨_, rfl⟩
        rw [hv] at NX
        have e3 : IntKind.i64.wrap ((a : Int) + 3) = (t : Int) := e2
        go_wp2_with fail
        go_region
        all_goals
          go_wp2
          go_roundw
          case rel => exact ⟨4, by omega, by go_num, NX.out.stay (fun _ _ => rfl), (KX.out _).drew⟩
          case measure => simp [intOf]
      · omega
    · obtain rfl : j = 4 := by omega
      go_wp2
      go_ret
      refine ⟨rfl, F, ⟨g, cb, A, c, ?_⟩, HB.out, Sub.refl _ _⟩
      rw [BU.out]
      exact HO.out
end Go.Proofs.Ytaehgpieichjkaa
