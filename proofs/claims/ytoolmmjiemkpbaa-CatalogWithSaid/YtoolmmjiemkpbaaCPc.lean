/-
  The contracts of package catalog's putNumber, putFile and Put: Put of a right catalog is its leaf; of another one zero; nothing that was in memory turns.
-/
import Derived.Test.YtoolmmjiemkpbaaCPb
import Derived.Test.YtoolmmjiemkpbaaCG
import Derived.Test.YtoolmmjiemkpbaaTake
import Derived.Test.YtoolmmjiemkpbaaLP
namespace Go.Proofs.Ytoolmmjiemkpbaa
set_option linter.unusedVariables false
set_option linter.unusedSimpArgs false
set_option maxRecDepth 100000
open Go.RowKit

/-- Bytes, and noughts behind them. -/
def pad (pre : List Int) : List Int := pre ++ zeros (116 - pre.length)
/-- A catalog's leaf under way: its first bytes are there. -/
def PreAt (w : World) (b : Nat) (sz : Int) (pre : List Int) : Prop := LfAt w b ⟨2, 0, 0, 0, sz, pad pre⟩
theorem pad_set (pre : List Int) (x : Int) (h : pre.length < 116) : (pad pre).set pre.length x = pad (pre ++ [x]) := by
  unfold pad
  obtain ⟨m, hm⟩ : ∃ m, 116 - pre.length = m + 1 := ⟨115 - pre.length, by omega⟩
  rw [List.set_append_right _ _ (Nat.le_refl _), Nat.sub_self, hm, List.append_assoc, List.length_append]
  have e : 116 - (pre.length + [x].length) = m := by show 116 - (pre.length + 1) = m; omega
  rw [e]
  rfl
theorem PreAt.store {w : World} {b : Nat} {sz : Int} {pre : List Int} (h : PreAt w b sz pre) (x : Int) (hx : U8 x) (hl : pre.length < 116) : PreAt (w.setCell ⟨b, 5 + pre.length, none⟩ (.int .u8 x)) b sz (pre ++ [x]) := by
  have := LfAt.store h pre.length x hx
  unfold PreAt
  rw [← pad_set pre x hl]
  exact this
theorem PreAt.cell {w : World} {b : Nat} {sz : Int} {pre : List Int} (h : PreAt w b sz pre) (k : Nat) (hk : k < 116) : w.cell? ⟨b, 5 + k, none⟩ = some (.int .u8 ((pad pre).getD k 0)) := LfAt.byte h k hk
theorem by4_succ (n : Int) (k : Nat) (hk : k < 4) : (by4 n).take (k + 1) = (by4 n).take k ++ [(by4 n).getD k 0] := by
  match k, hk with
  | 0, _ => rfl
  | 1, _ => rfl
  | 2, _ => rfl
  | 3, _ => rfl
theorem by4_len (n : Int) (k : Nat) (hk : k ≤ 4) : ((by4 n).take k).length = k := by
  rw [List.length_take]
  show min k 4 = k
  omega
set_option maxHeartbeats 800000 in
theorem putN_any (b : Nat) (sz : Int) (pre : List Int) (n : Int) (m cap : Nat) (hm : m ≤ 4) (hp : pre.length + m ≤ 116) (h0 : 0 ≤ n) (h1 : n ≤ 4294967295) (at_ : Nat) (hat : at_ = 5 + pre.length) (w : World) (h : PreAt w b sz pre) :
    Calls Try.prog 68 #[.slice (some ⟨b, at_, none⟩) m cap, .int .i64 n] w fun e w' => e = .returned (.tuple #[]) ∧ PreAt w' b sz (pre ++ (by4 n).take m) ∧ Keep (· = b) w w' := by
  have H := Lib.hid h; have HAT := Lib.hid hat
  clear h hat
  go_enter Try.func68, Try.ntmps68
  go_wp2
  go_loopw [4, 7] (fun _ iv wr => ∃ k : Nat, k ≤ m ∧ iv = .int .i64 k ∧ PreAt wr b sz (pre ++ (by4 n).take k) ∧ Keep (· = b) w wr) (fun _ iv _ => m - (intOf iv).toNat)
  case atStart => exact ⟨0, Nat.zero_le _, rfl, by rw [List.take_zero, List.append_nil]; exact H.out, Keep.refl _ _⟩
  case round =>
    obtain ⟨k, hk, rfl, hp1, hk1⟩ := hrel
    by_cases hlt : k < m
    · have i1 : decide ((k : Int) < (m : Int)) = true := by rw [decide_eq_true_eq]; omega
      have hlen : (pre ++ (by4 n).take k).length = pre.length + k := by rw [List.length_append, by4_len n k (by omega)]
      have ha : at_ + k = 5 + (pre ++ (by4 n).take k).length := by rw [hlen, HAT.out]; omega
      have c0 : wr.cell? ⟨b, at_ + k, none⟩ = some (.int .u8 ((pad (pre ++ (by4 n).take k)).getD (pre ++ (by4 n).take k).length 0)) := by rw [ha]; exact hp1.cell _ (by rw [hlen]; omega)
      have f0 : wr.frozen? ⟨b, at_ + k, none⟩ = false := LfAt.frozen hp1 _
      obtain ⟨x, hx⟩ : ∃ x, (by4 n).getD k 0 = x := ⟨_, rfl⟩
      have ux : U8 x := by rw [← hx]; exact by4_u8 n k (by omega)
      have P2 : Hid (PreAt (wr.setCell ⟨b, at_ + k, none⟩ (.int .u8 x)) b sz (pre ++ (by4 n).take (k + 1))) := Lib.hid (by
        have := hp1.store x ux (by rw [hlen]; omega)
        rw [ha, by4_succ n k (by omega), hx, ← List.append_assoc]
        exact this)
      have K2 : Hid (Keep (· = b) w (wr.setCell ⟨b, at_ + k, none⟩ (.int .u8 x))) := Lib.hid (hk1.cellF (a := ⟨b, at_ + k, none⟩) rfl _)
      have HX := Lib.hid hx
      clear hp1 hk1 ha hlen hx
      generalize (pad (pre ++ (by4 n).take k)).getD (pre ++ (by4 n).take k).length 0 = y at *
      have e8 : n / 2 ^ (8 * k) % 256 = x := by
        rw [← HX.out]
        have hk4 : k < 4 := by omega
        match k, hk4 with
        | 0, _ => show n / 1 % 256 = n % 256; omega
        | 1, _ => rfl
        | 2, _ => rfl
        | 3, _ => rfl
      go_wp2
      go_roundw
      case rel => exact ⟨k + 1, by omega, by go_num, P2.out, K2.out⟩
      case measure => simp [intOf]; omega
    · obtain rfl : k = m := by omega
      have i1 : decide ((k : Int) < (k : Int)) = false := by simp
      have P1 := Lib.hid hp1; have K1 := Lib.hid hk1
      clear hp1 hk1
      go_wp2
      go_end0
      exact ⟨rfl, P1.out, K1.out⟩
theorem Keep.step {F : Nat → Prop} {w w' w'' : World} (h : Keep F w w') (h' : Keep F w' w'') : Keep F w w'' := h.trans (Sub.refl _ _) h'
/-- The same behind a draw. -/
theorem putN_drew (b : Nat) (sz : Int) (pre : List Int) (n : Int) (m cap : Nat) (hm : m ≤ 4) (hp : pre.length + m ≤ 116) (h0 : 0 ≤ n) (h1 : n ≤ 4294967295) (at_ : Nat) (hat : at_ = 5 + pre.length) (w : World) (h : PreAt w b sz pre) :
    Calls Try.prog 68 #[.slice (some ⟨b, at_, none⟩) m cap, .int .i64 n] w.drew fun e w' => e = .returned (.tuple #[]) ∧ PreAt w' b sz (pre ++ (by4 n).take m) ∧ Keep (· = b) w w' :=
  (putN_any b sz pre n m cap hm hp h0 h1 at_ hat w.drew h).mono fun e w' ⟨h1, h2, h3⟩ => ⟨h1, h2, (Keep.of_below (Below.refl _ w).drew).step h3⟩
set_option maxHeartbeats 1600000 in
theorem putF_any (b : Nat) (sz : Int) (pre : List Int) (f : Fl) (hf : f.Right) (len cap : Nat) (hl7 : 7 ≤ len) (hlc : len ≤ cap) (hc : cap ≤ 116) (hp : pre.length + 7 ≤ 116) (at_ : Nat) (hat : at_ = 5 + pre.length) (w : World) (h : PreAt w b sz pre) :
    Calls Try.prog 69 #[.slice (some ⟨b, at_, none⟩) len cap, .agg #[.int .i64 f.name, .int .i64 f.file, .int .i64 f.first, .int .i64 f.blocks]] w fun e w' => e = .returned (.tuple #[]) ∧ PreAt w' b sz (pre ++ f.bytes) ∧ Keep (· = b) w w' := by
  obtain ⟨⟨n0, n1⟩, ⟨f0, f1⟩, ⟨k0, k1⟩, ⟨x0, x1⟩, _⟩ := hf
  have H := Lib.hid h; have HAT := Lib.hid hat
  have hbw : b < w.heap.size := LfAt.lt h
  have P0 : Hid (PreAt (w.alloc (.cells #[.int .i64 f.name, .int .i64 f.file, .int .i64 f.first, .int .i64 f.blocks] 33)) b sz pre) := Lib.hid (LfAt.alloc h _)
  clear h hat
  have c0 : (w.alloc (.cells #[.int .i64 f.name, .int .i64 f.file, .int .i64 f.first, .int .i64 f.blocks] 33)).cell? ⟨b, at_, none⟩ = some (.int .u8 ((pad pre).getD pre.length 0)) := by rw [HAT.out]; exact P0.out.cell _ (by omega)
  have z0 : (w.alloc (.cells #[.int .i64 f.name, .int .i64 f.file, .int .i64 f.first, .int .i64 f.blocks] 33)).frozen? ⟨b, at_, none⟩ = false := LfAt.frozen P0.out _
  have l0 : (0 : Int) < (len : Int) := by omega
  generalize (pad pre).getD pre.length 0 = y at *
  go_enter Try.func69, Try.ntmps69
  go_wp2_with fail
  obtain ⟨g, hg⟩ : ∃ g, g = w.heap.size := ⟨_, rfl⟩
  obtain ⟨w1, hw1⟩ : ∃ w1, w1 = (w.setCell ⟨b, at_, none⟩ (.int .u8 f.name)).alloc (.cells #[.int .i64 f.name, .int .i64 f.file, .int .i64 f.first, .int .i64 f.blocks] 33) := ⟨_, rfl⟩
  have P1 : Hid (PreAt w1 b sz (pre ++ [f.name])) := Lib.hid (by rw [hw1, HAT.out]; exact LfAt.alloc (H.out.store f.name ⟨by omega, by omega⟩ (by omega)) _)
  have K1 : Hid (Keep (· = b) w w1) := Lib.hid (by rw [hw1]; exact ((Keep.refl (· = b) w).cellF (a := ⟨b, at_, none⟩) rfl _).step (Keep.of_below ((Below.refl _ _).alloc (Nat.le_refl _) _)))
  have G1 : Hid (w1.heap[g]? = some (.cells #[.int .i64 f.name, .int .i64 f.file, .int .i64 f.first, .int .i64 f.blocks] 33 (0, 0))) := Lib.hid (by
    have e : (w.setCell ⟨b, at_, none⟩ (.int .u8 f.name)).heap.size = g := by rw [hg]; simp [World.setCell]
    rw [hw1, ← e]; exact heap_alloc_new _ _)
  rw [← hw1, ← hg]
  have hgb : g ≠ b := by omega
  have hgs : g < w1.heap.size := by rw [hw1, hg]; simp [World.setCell]
  clear hw1 hg P0 c0 z0 H
  have cell_of : ∀ (W : World), W.heap[g]? = some (.cells #[.int .i64 f.name, .int .i64 f.file, .int .i64 f.first, .int .i64 f.blocks] 33 (0, 0)) → W.cell? ⟨g, 1, none⟩ = some (.int .i64 f.file) ∧ W.cell? ⟨g, 2, none⟩ = some (.int .i64 f.first) ∧ W.cell? ⟨g, 3, none⟩ = some (.int .i64 f.blocks) := fun W hW => ⟨cell_of_row _ _ _ _ _ _ hW, cell_of_row _ _ _ _ _ _ hW, cell_of_row _ _ _ _ _ _ hW⟩
  have CO := Lib.hid cell_of
  clear cell_of
  obtain ⟨c1, c2, c3⟩ := CO.out w1 G1.out
  clear c2 c3
  have q1 : ¬ cap = 1 := by omega
  have q3 : ¬ cap = 3 := by omega
  have q5 : ¬ cap = 5 := by omega
  have s1 : (3 : Int) ≤ (cap : Int) := by omega
  have s2 : (5 : Int) ≤ (cap : Int) := by omega
  have s3 : (7 : Int) ≤ (cap : Int) := by omega
  have PN := Lib.hid (fun cp => putN_drew b sz (pre ++ [f.name]) f.file 2 cp (by decide) (by simp only [List.length_append, List.length_cons, List.length_nil, le2_len]; omega) (by omega) (by omega) (at_ + 1) (by simp only [List.length_append, List.length_cons, List.length_nil, le2_len]; have := HAT.out; omega) w1 P1.out)
  go_wp2_with fail
  go_region_with ((go_at_call 68; with_reducible refine (PN.out _).mono ?_; rintro e w2 ⟨rfl, p2, k2⟩; have P2 := Lib.hid p2; have J2 := Lib.hid k2; clear p2 k2))
  clear PN
  have G2 := Lib.hid ((J2.out.block g hgs hgb).trans G1.out)
  have P2 : Hid (PreAt w2 b sz (pre ++ [f.name] ++ le2 f.file)) := P2
  have K2 := Lib.hid (K1.out.step J2.out)
  have gs2 := Nat.lt_of_lt_of_le hgs J2.out.size
  obtain ⟨_, c2, _⟩ := CO.out w2 G2.out
  clear G1 c1 P1 K1 J2
  have PN := Lib.hid (fun cp => putN_drew b sz (pre ++ [f.name] ++ le2 f.file) f.first 2 cp (by decide) (by simp only [List.length_append, List.length_cons, List.length_nil, le2_len]; omega) (by omega) (by omega) (at_ + 3) (by simp only [List.length_append, List.length_cons, List.length_nil, le2_len]; have := HAT.out; omega) w2 P2.out)
  go_wp2_with fail
  go_region_with ((go_at_call 68; with_reducible refine (PN.out _).mono ?_; rintro e w3 ⟨rfl, p2, k2⟩; have P3 := Lib.hid p2; have J3 := Lib.hid k2; clear p2 k2))
  clear PN
  have G3 := Lib.hid ((J3.out.block g gs2 hgb).trans G2.out)
  have P3 : Hid (PreAt w3 b sz (pre ++ [f.name] ++ le2 f.file ++ le2 f.first)) := P3
  have K3 := Lib.hid (K2.out.step J3.out)
  obtain ⟨_, _, c3⟩ := CO.out w3 G3.out
  clear G2 c2 P2 K2 J3
  have PN := Lib.hid (fun cp => putN_drew b sz (pre ++ [f.name] ++ le2 f.file ++ le2 f.first) f.blocks 2 cp (by decide) (by simp only [List.length_append, List.length_cons, List.length_nil, le2_len]; omega) (by omega) (by omega) (at_ + 5) (by simp only [List.length_append, List.length_cons, List.length_nil, le2_len]; have := HAT.out; omega) w3 P3.out)
  go_wp2_with fail
  go_region_with ((go_at_call 68; with_reducible refine (PN.out _).mono ?_; rintro e w4 ⟨rfl, p2, k2⟩; have P4 := Lib.hid p2; have J4 := Lib.hid k2; clear p2 k2))
  clear PN
  have P4 : Hid (PreAt w4 b sz (pre ++ [f.name] ++ le2 f.file ++ le2 f.first ++ le2 f.blocks)) := P4
  have K4 := Lib.hid (K3.out.step J4.out)
  have E : Hid (pre ++ [f.name] ++ le2 f.file ++ le2 f.first ++ le2 f.blocks = pre ++ f.bytes) := Lib.hid (by simp only [List.append_assoc]; rfl)
  clear G3 c3 P3 K3 J4
  go_wp2
  go_end0
  exact ⟨rfl, by rw [← E.out]; exact P4.out, K4.out⟩
end Go.Proofs.Ytoolmmjiemkpbaa
