/-
  What the document's GetCatalog answers, as data; its numbers out of bytes.
  The contracts of package catalog's putNumber, putFile and Put: Put of a right catalog is its leaf; of another one zero; nothing that was in memory turns.
  The contract of slices.insertionSortCmpFunc at files with byName: the row is sorted by names, equals stay in their order.
-/
import Derived.Test.YtilmicekpclmbaaZn
import Derived.Test.YtilmicekpclmbaaZu
import Derived.Handy
import Derived.Test.YtilmicekpclmbaaZq
import Derived.Test.YtilmicekpclmbaaZt
import Derived.Test.YtilmicekpclmbaaZp
import Derived.BigRegion
import Derived.BigQuiet
import Derived.Deep.QuietTactic
namespace Go.Proofs.Ytilmicekpclmbaa
set_option linter.unusedVariables false
set_option linter.unusedSimpArgs false
set_option maxRecDepth 100000
open Go.RowKit

/-- What is asked of a leaf ahead of what its bytes say. -/
structure Lf.Pre (L : Lf) : Prop where
  r : L.Right
  k : L.kind = 2
  f : L.file = 0
  p : L.place = 0
  n : L.next = 0
  s : 17 ≤ L.size
  m : (L.size - 17) % 7 = 0
open Classical in
noncomputable def Lf.badL (L : Lf) : Bool := !decide L.Pre
theorem Lf.badL_yes {L : Lf} : L.badL = true ↔ ¬ L.Pre := by unfold Lf.badL; simp
theorem Lf.badL_no {L : Lf} : L.badL = false ↔ L.Pre := by unfold Lf.badL; simp
noncomputable def gotC (L : Lf) : Ct := (getCt L).getD Ct.zero
noncomputable def gotK (L : Lf) : Bool := (getCt L).isSome
theorem gotC_none {L : Lf} (h : ¬ L.IsCt) : gotC L = Ct.zero ∧ gotK L = false := by
  unfold gotC gotK getCt
  rw [if_neg h]
  exact ⟨rfl, rfl⟩
theorem gotC_some {L : Lf} (h : L.IsCt) : gotC L = unCt L ∧ gotK L = true := by
  unfold gotC gotK getCt
  rw [if_pos h]
  exact ⟨rfl, rfl⟩
theorem RdB.skip {w : World} {B b o : Nat} {xs : List Int} (h : RdB w B (some ⟨b, o, none⟩) xs) (m : Nat) : RdB w B (some ⟨b, o + m, none⟩) (xs.drop m) := fun k hk => by
  rw [List.length_drop] at hk
  obtain ⟨b', o', e, h1, h2, h3⟩ := h (m + k) (by omega)
  injection e with e; injection e with e1 e2; subst e1 e2
  have ed : (xs.drop m).getD k 0 = xs.getD (m + k) 0 := by rw [List.getD_eq_getElem?_getD, List.getElem?_drop, List.getD_eq_getElem?_getD]
  rw [ed]
  exact ⟨b, o + m, rfl, h1, by rw [Nat.add_assoc]; exact h2, h3⟩
theorem numL_two {ys : List Int} (k : Nat) (hk : k + 1 < ys.length) : numL ((ys.drop k).take 2) = num2 ys k := by
  have e : (ys.drop k).take 2 = [ys.getD k 0, ys.getD (k + 1) 0] := by
    rw [List.drop_eq_getElem_cons (by omega), List.drop_eq_getElem_cons (by omega), List.getD_eq_getElem?_getD, List.getD_eq_getElem?_getD, List.getElem?_eq_getElem (by omega), List.getElem?_eq_getElem (by omega)]
    rfl
  rw [e]
  show ((0 : Int) * 256 + ys.getD (k + 1) 0) * 256 + ys.getD k 0 = ys.getD k 0 + 256 * ys.getD (k + 1) 0
  omega
theorem numL_four {ys : List Int} (k : Nat) (hk : k + 3 < ys.length) : numL ((ys.drop k).take 4) = num4 ys k := by
  have e : (ys.drop k).take 4 = [ys.getD k 0, ys.getD (k + 1) 0, ys.getD (k + 2) 0, ys.getD (k + 3) 0] := by
    rw [List.drop_eq_getElem_cons (by omega), List.drop_eq_getElem_cons (by omega), List.drop_eq_getElem_cons (by omega), List.drop_eq_getElem_cons (by omega), List.getD_eq_getElem?_getD, List.getD_eq_getElem?_getD, List.getD_eq_getElem?_getD, List.getD_eq_getElem?_getD, List.getElem?_eq_getElem (by omega), List.getElem?_eq_getElem (by omega), List.getElem?_eq_getElem (by omega), List.getElem?_eq_getElem (by omega)]
    rfl
  rw [e]
  show ((((0 : Int) * 256 + ys.getD (k + 3) 0) * 256 + ys.getD (k + 2) 0) * 256 + ys.getD (k + 1) 0) * 256 + ys.getD k 0 = ys.getD k 0 + 256 * ys.getD (k + 1) 0 + 65536 * ys.getD (k + 2) 0 + 16777216 * ys.getD (k + 3) 0
  omega
/-- What Get answers: the catalog, its files in a row of the call's own, and whether there is one. -/
def GetC (w : World) (L : Lf) (e : Ending) (w' : World) : Prop :=
  ∃ A n cap, e = .returned (.tuple #[.agg (ctv (gotC L) A n cap).toArray, .bool (gotK L)]) ∧ OwnF w' w.heap.size A n cap (gotC L).files ∧ Below w.heap.size w w'
end Go.Proofs.Ytilmicekpclmbaa
namespace Go.Proofs.Ytilmicekpclmbaa
set_option linter.unusedVariables false
set_option linter.unusedSimpArgs false
set_option maxRecDepth 100000
open Go.RowKit

/-- Bytes, and noughts behind them. -/
def pad (pre : List Int) : List Int := pre ++ zeros (116 - pre.length)
/-- A catalog's leaf under way: its first bytes are there. -/
def PreAt (w : World) (b : Nat) (sz : Int) (pre : List Int) : Prop := LfAt w b ⟨2, 0, 0, 0, sz, pad pre⟩
theorem pad_set (pre : List Int) (x : Int) (h : pre.length < 116) : (pad pre).set pre.length x = pad (pre ++ [x]) := by
  unfold pad
  obtain ⟨m, hm⟩ : ∃ m, 116 - pre.length = m + 1 := ⟨115 - pre.length, by omega⟩
  rw [List.set_append_right _ _ (Nat.le_refl _), Nat.sub_self, hm, List.append_assoc, List.length_append]
  have e : 116 - (pre.length + [x].length) = m := by show 116 - (pre.length + 1) = m; omega
  rw [e]
  rfl
theorem PreAt.store {w : World} {b : Nat} {sz : Int} {pre : List Int} (h : PreAt w b sz pre) (x : Int) (hx : U8 x) (hl : pre.length < 116) : PreAt (w.setCell ⟨b, 5 + pre.length, none⟩ (.int .u8 x)) b sz (pre ++ [x]) := by
  have := LfAt.store h pre.length x hx
  unfold PreAt
  rw [← pad_set pre x hl]
  exact this
theorem PreAt.cell {w : World} {b : Nat} {sz : Int} {pre : List Int} (h : PreAt w b sz pre) (k : Nat) (hk : k < 116) : w.cell? ⟨b, 5 + k, none⟩ = some (.int .u8 ((pad pre).getD k 0)) := LfAt.byte h k hk
theorem by4_succ (n : Int) (k : Nat) (hk : k < 4) : (by4 n).take (k + 1) = (by4 n).take k ++ [(by4 n).getD k 0] := by
  match k, hk with
  | 0, _ => rfl
  | 1, _ => rfl
  | 2, _ => rfl
  | 3, _ => rfl
theorem by4_len (n : Int) (k : Nat) (hk : k ≤ 4) : ((by4 n).take k).length = k := by
  rw [List.length_take]
  show min k 4 = k
  omega
set_option maxHeartbeats 800000 in
theorem putN_any (b : Nat) (sz : Int) (pre : List Int) (n : Int) (m cap : Nat) (hm : m ≤ 4) (hp : pre.length + m ≤ 116) (h0 : 0 ≤ n) (h1 : n ≤ 4294967295) (at_ : Nat) (hat : at_ = 5 + pre.length) (w : World) (h : PreAt w b sz pre) :
    Calls Try.prog 65 #[.slice (some ⟨b, at_, none⟩) m cap, .int .i64 n] w fun e w' => e = .returned (.tuple #[]) ∧ PreAt w' b sz (pre ++ (by4 n).take m) ∧ Keep (· = b) w w' := by
  have H := Lib.hid h; have HAT := Lib.hid hat
  clear h hat
  go_enter Try.func65, Try.ntmps65
  go_wp2
  go_loopw [4, 7] (fun _ iv wr => ∃ k : Nat, k ≤ m ∧ iv = .int .i64 k ∧ PreAt wr b sz (pre ++ (by4 n).take k) ∧ Keep (· = b) w wr) (fun _ iv _ => m - (intOf iv).toNat)
  case atStart => exact ⟨0, Nat.zero_le _, rfl, by rw [List.take_zero, List.append_nil]; exact H.out, Keep.refl _ _⟩
  case round =>
    obtain ⟨k, hk, rfl, hp1, hk1⟩ := hrel
    by_cases hlt : k < m
    · have i1 : decide ((k : Int) < (m : Int)) = true := by rw [decide_eq_true_eq]; omega
      have hlen : (pre ++ (by4 n).take k).length = pre.length + k := by rw [List.length_append, by4_len n k (by omega)]
      have ha : at_ + k = 5 + (pre ++ (by4 n).take k).length := by rw [hlen, HAT.out]; omega
      have c0 : wr.cell? ⟨b, at_ + k, none⟩ = some (.int .u8 ((pad (pre ++ (by4 n).take k)).getD (pre ++ (by4 n).take k).length 0)) := by rw [ha]; exact hp1.cell _ (by rw [hlen]; omega)
      have f0 : wr.frozen? ⟨b, at_ + k, none⟩ = false := LfAt.frozen hp1 _
      obtain ⟨x, hx⟩ : ∃ x, (by4 n).getD k 0 = x := ⟨_, rfl⟩
      have ux : U8 x := by rw [← hx]; exact by4_u8 n k (by omega)
      have P2 : Hid (PreAt (wr.setCell ⟨b, at_ + k, none⟩ (.int .u8 x)) b sz (pre ++ (by4 n).take (k + 1))) := Lib.hid (by
        have := hp1.store x ux (by rw [hlen]; omega)
        rw [ha, by4_succ n k (by omega), hx, ← List.append_assoc]
        exact this)
      have K2 : Hid (Keep (· = b) w (wr.setCell ⟨b, at_ + k, none⟩ (.int .u8 x))) := Lib.hid (hk1.cellF (a := ⟨b, at_ + k, none⟩) rfl _)
      have HX := Lib.hid hx
      clear hp1 hk1 ha hlen hx
      generalize (pad (pre ++ (by4 n).take k)).getD (pre ++ (by4 n).take k).length 0 = y at *
      have e8 : n / 2 ^ (8 * k) % 256 = x := by
        rw [← HX.out]
        have hk4 : k < 4 := by omega
        match k, hk4 with
        | 0, _ => show n / 1 % 256 = n % 256; omega
        | 1, _ => rfl
        | 2, _ => rfl
        | 3, _ => rfl
      go_wp2
      go_roundw
      case rel => exact ⟨k + 1, by omega, by go_num, P2.out, K2.out⟩
      case measure => simp [intOf]; omega
    · obtain rfl : k = m := by omega
      have i1 : decide ((k : Int) < (k : Int)) = false := by simp
      have P1 := Lib.hid hp1; have K1 := Lib.hid hk1
      clear hp1 hk1
      go_wp2
      go_end0
      exact ⟨rfl, P1.out, K1.out⟩
theorem Keep.step {F : Nat → Prop} {w w' w'' : World} (h : Keep F w w') (h' : Keep F w' w'') : Keep F w w'' := h.trans (Sub.refl _ _) h'
/-- The same behind a draw. -/
theorem putN_drew (b : Nat) (sz : Int) (pre : List Int) (n : Int) (m cap : Nat) (hm : m ≤ 4) (hp : pre.length + m ≤ 116) (h0 : 0 ≤ n) (h1 : n ≤ 4294967295) (at_ : Nat) (hat : at_ = 5 + pre.length) (w : World) (h : PreAt w b sz pre) :
    Calls Try.prog 65 #[.slice (some ⟨b, at_, none⟩) m cap, .int .i64 n] w.drew fun e w' => e = .returned (.tuple #[]) ∧ PreAt w' b sz (pre ++ (by4 n).take m) ∧ Keep (· = b) w w' :=
  (putN_any b sz pre n m cap hm hp h0 h1 at_ hat w.drew h).mono fun e w' ⟨h1, h2, h3⟩ => ⟨h1, h2, (Keep.of_below (Below.refl _ w).drew).step h3⟩
set_option maxHeartbeats 1600000 in
theorem putF_any (b : Nat) (sz : Int) (pre : List Int) (f : Fl) (hf : f.Right) (len cap : Nat) (hl7 : 7 ≤ len) (hlc : len ≤ cap) (hc : cap ≤ 116) (hp : pre.length + 7 ≤ 116) (at_ : Nat) (hat : at_ = 5 + pre.length) (w : World) (h : PreAt w b sz pre) :
    Calls Try.prog 66 #[.slice (some ⟨b, at_, none⟩) len cap, .agg #[.int .i64 f.name, .int .i64 f.file, .int .i64 f.first, .int .i64 f.blocks]] w fun e w' => e = .returned (.tuple #[]) ∧ PreAt w' b sz (pre ++ f.bytes) ∧ Keep (· = b) w w' := by
  obtain ⟨⟨n0, n1⟩, ⟨f0, f1⟩, ⟨k0, k1⟩, ⟨x0, x1⟩, _⟩ := hf
  have H := Lib.hid h; have HAT := Lib.hid hat
  have hbw : b < w.heap.size := LfAt.lt h
  have P0 : Hid (PreAt (w.alloc (.cells #[.int .i64 f.name, .int .i64 f.file, .int .i64 f.first, .int .i64 f.blocks] 40)) b sz pre) := Lib.hid (LfAt.alloc h _)
  clear h hat
  have c0 : (w.alloc (.cells #[.int .i64 f.name, .int .i64 f.file, .int .i64 f.first, .int .i64 f.blocks] 40)).cell? ⟨b, at_, none⟩ = some (.int .u8 ((pad pre).getD pre.length 0)) := by rw [HAT.out]; exact P0.out.cell _ (by omega)
  have z0 : (w.alloc (.cells #[.int .i64 f.name, .int .i64 f.file, .int .i64 f.first, .int .i64 f.blocks] 40)).frozen? ⟨b, at_, none⟩ = false := LfAt.frozen P0.out _
  have l0 : (0 : Int) < (len : Int) := by omega
  generalize (pad pre).getD pre.length 0 = y at *
  go_enter Try.func66, Try.ntmps66
  go_wp2_with fail
  obtain ⟨g, hg⟩ : ∃ g, g = w.heap.size := ⟨_, rfl⟩
  obtain ⟨w1, hw1⟩ : ∃ w1, w1 = (w.setCell ⟨b, at_, none⟩ (.int .u8 f.name)).alloc (.cells #[.int .i64 f.name, .int .i64 f.file, .int .i64 f.first, .int .i64 f.blocks] 40) := ⟨_, rfl⟩
  have P1 : Hid (PreAt w1 b sz (pre ++ [f.name])) := Lib.hid (by rw [hw1, HAT.out]; exact LfAt.alloc (H.out.store f.name ⟨by omega, by omega⟩ (by omega)) _)
  have K1 : Hid (Keep (· = b) w w1) := Lib.hid (by rw [hw1]; exact ((Keep.refl (· = b) w).cellF (a := ⟨b, at_, none⟩) rfl _).step (Keep.of_below ((Below.refl _ _).alloc (Nat.le_refl _) _)))
  have G1 : Hid (w1.heap[g]? = some (.cells #[.int .i64 f.name, .int .i64 f.file, .int .i64 f.first, .int .i64 f.blocks] 40 (0, 0))) := Lib.hid (by
    have e : (w.setCell ⟨b, at_, none⟩ (.int .u8 f.name)).heap.size = g := by rw [hg]; simp [World.setCell]
    rw [hw1, ← e]; exact heap_alloc_new _ _)
  rw [← hw1, ← hg]
  have hgb : g ≠ b := by omega
  have hgs : g < w1.heap.size := by rw [hw1, hg]; simp [World.setCell]
  clear hw1 hg P0 c0 z0 H
  have cell_of : ∀ (W : World), W.heap[g]? = some (.cells #[.int .i64 f.name, .int .i64 f.file, .int .i64 f.first, .int .i64 f.blocks] 40 (0, 0)) → W.cell? ⟨g, 1, none⟩ = some (.int .i64 f.file) ∧ W.cell? ⟨g, 2, none⟩ = some (.int .i64 f.first) ∧ W.cell? ⟨g, 3, none⟩ = some (.int .i64 f.blocks) := fun W hW => ⟨cell_of_row _ _ _ _ _ _ hW, cell_of_row _ _ _ _ _ _ hW, cell_of_row _ _ _ _ _ _ hW⟩
  have CO := Lib.hid cell_of
  clear cell_of
  obtain ⟨c1, c2, c3⟩ := CO.out w1 G1.out
  clear c2 c3
  have q1 : ¬ cap = 1 := by omega
  have q3 : ¬ cap = 3 := by omega
  have q5 : ¬ cap = 5 := by omega
  have s1 : (3 : Int) ≤ (cap : Int) := by omega
  have s2 : (5 : Int) ≤ (cap : Int) := by omega
  have s3 : (7 : Int) ≤ (cap : Int) := by omega
  have PN := Lib.hid (fun cp => putN_drew b sz (pre ++ [f.name]) f.file 2 cp (by decide) (by simp only [List.length_append, List.length_cons, List.length_nil, le2_len]; omega) (by omega) (by omega) (at_ + 1) (by simp only [List.length_append, List.length_cons, List.length_nil, le2_len]; have := HAT.out; omega) w1 P1.out)
  go_wp2_with fail
  go_region_with ((go_at_call 65; with_reducible refine (PN.out _).mono ?_; rintro e w2 ⟨rfl, p2, k2⟩; have P2 := Lib.hid p2; have J2 := Lib.hid k2; clear p2 k2))
  clear PN
  have G2 := Lib.hid ((J2.out.block g hgs hgb).trans G1.out)
  have P2 : Hid (PreAt w2 b sz (pre ++ [f.name] ++ le2 f.file)) := P2
  have K2 := Lib.hid (K1.out.step J2.out)
  have gs2 := Nat.lt_of_lt_of_le hgs J2.out.size
  obtain ⟨_, c2, _⟩ := CO.out w2 G2.out
  clear G1 c1 P1 K1 J2
  have PN := Lib.hid (fun cp => putN_drew b sz (pre ++ [f.name] ++ le2 f.file) f.first 2 cp (by decide) (by simp only [List.length_append, List.length_cons, List.length_nil, le2_len]; omega) (by omega) (by omega) (at_ + 3) (by simp only [List.length_append, List.length_cons, List.length_nil, le2_len]; have := HAT.out; omega) w2 P2.out)
  go_wp2_with fail
  go_region_with ((go_at_call 65; with_reducible refine (PN.out _).mono ?_; rintro e w3 ⟨rfl, p2, k2⟩; have P3 := Lib.hid p2; have J3 := Lib.hid k2; clear p2 k2))
  clear PN
  have G3 := Lib.hid ((J3.out.block g gs2 hgb).trans G2.out)
  have P3 : Hid (PreAt w3 b sz (pre ++ [f.name] ++ le2 f.file ++ le2 f.first)) := P3
  have K3 := Lib.hid (K2.out.step J3.out)
  obtain ⟨_, _, c3⟩ := CO.out w3 G3.out
  clear G2 c2 P2 K2 J3
  have PN := Lib.hid (fun cp => putN_drew b sz (pre ++ [f.name] ++ le2 f.file ++ le2 f.first) f.blocks 2 cp (by decide) (by simp only [List.length_append, List.length_cons, List.length_nil, le2_len]; omega) (by omega) (by omega) (at_ + 5) (by simp only [List.length_append, List.length_cons, List.length_nil, le2_len]; have := HAT.out; omega) w3 P3.out)
  go_wp2_with fail
  go_region_with ((go_at_call 65; with_reducible refine (PN.out _).mono ?_; rintro e w4 ⟨rfl, p2, k2⟩; have P4 := Lib.hid p2; have J4 := Lib.hid k2; clear p2 k2))
  clear PN
  have P4 : Hid (PreAt w4 b sz (pre ++ [f.name] ++ le2 f.file ++ le2 f.first ++ le2 f.blocks)) := P4
  have K4 := Lib.hid (K3.out.step J4.out)
  have E : Hid (pre ++ [f.name] ++ le2 f.file ++ le2 f.first ++ le2 f.blocks = pre ++ f.bytes) := Lib.hid (by simp only [List.append_assoc]; rfl)
  clear G3 c3 P3 K3 J4
  go_wp2
  go_end0
  exact ⟨rfl, by rw [← E.out]; exact P4.out, K4.out⟩
end Go.Proofs.Ytilmicekpclmbaa
namespace Go.Proofs.Ytilmicekpclmbaa
set_option linter.unusedVariables false
set_option linter.unusedSimpArgs false
set_option maxRecDepth 100000
open Go.RowKit

theorem flAt_app_right (P S : List Fl) (j : Nat) : flAt (P ++ S) (P.length + j) = flAt S j := by
  unfold flAt
  rw [List.getD_eq_getElem?_getD, List.getElem?_append_right (by omega), Nat.add_sub_cancel_left, List.getD_eq_getElem?_getD]
theorem flAt_mid (P S : List Fl) (x : Fl) (j : Nat) (h : P.length = j) : flAt (P ++ x :: S) j = x := by
  subst h
  exact flAt_app_right P (x :: S) 0
/-- What holds at the inner loop's head: x has come to place j, ahead of S; P and S are the sorted front. -/
structure Mid (L R : List Fl) (x : Fl) (j : Nat) (d : List Fl) : Prop where
  mk' ::
  ex : ∃ P S, d = P ++ x :: (S ++ R) ∧ P.length = j ∧ P ++ S = L ∧ ∀ z, z ∈ S → x.name < z.name
theorem Mid.start (L R : List Fl) (x : Fl) : Mid L R x L.length (L ++ x :: R) := ⟨L, [], rfl, rfl, List.append_nil _, fun z hz => by cases hz⟩
theorem Mid.at {L R : List Fl} {x : Fl} {j : Nat} {d : List Fl} (h : Mid L R x j d) : flAt d j = x := by
  obtain ⟨P, S, rfl, hP, _, _⟩ := h
  exact flAt_mid P _ x j hP
theorem Mid.down {L R : List Fl} {x : Fl} {j : Nat} {d : List Fl} (h : Mid L R x (j + 1) d) (hlt : x.name < (flAt d j).name) : Mid L R x j ((d.set (j + 1) (flAt d j)).set j x) := by
  obtain ⟨P, S, rfl, hP, hL, hS⟩ := h
  rcases List.eq_nil_or_concat P with e | ⟨P', p, e⟩
  · rw [e] at hP; cases hP
  · rw [List.concat_eq_append] at e
    subst e
    rw [List.length_append] at hP
    have hP : P'.length = j := by simpa using hP
    have hd : P' ++ [p] ++ x :: (S ++ R) = P' ++ p :: x :: (S ++ R) := by simp
    have hp : flAt (P' ++ [p] ++ x :: (S ++ R)) j = p := by rw [hd]; exact flAt_mid P' _ p j hP
    rw [hp] at hlt ⊢
    refine ⟨P', p :: S, ?_, hP, by rw [← hL]; simp, fun z hz => ?_⟩
    · rw [hd, ← hP, List.set_append_right _ _ (by omega), List.set_append_right _ _ (by omega)]
      have e1 : P'.length + 1 - P'.length = 1 := by omega
      rw [e1, Nat.sub_self]
      rfl
    · rcases List.mem_cons.1 hz with e | e
      · rw [e]; exact hlt
      · exact hS z e
theorem Mid.stop {L R : List Fl} {x : Fl} {j : Nat} {d : List Fl} (h : Mid L R x j d) (hr : Rise Fl.name L) (hs : j = 0 ∨ ∃ i, j = i + 1 ∧ ¬ x.name < (flAt d i).name) : d = ins Fl.name x L ++ R := by
  obtain ⟨P, S, rfl, hP, hL, hS⟩ := h
  have key : ∀ z, z ∈ P → z.name ≤ x.name := by
    rcases hs with e | ⟨i, e, hn⟩
    · rw [e] at hP
      rw [List.eq_nil_of_length_eq_zero hP]
      exact fun z hz => by cases hz
    · rcases List.eq_nil_or_concat P with e' | ⟨P', p, e'⟩
      · rw [e', e] at hP; cases hP
      · rw [List.concat_eq_append] at e'
        subst e'
        rw [List.length_append, e] at hP
        have hP : P'.length = i := by simpa using hP
        have hp : flAt (P' ++ [p] ++ x :: (S ++ R)) i = p := by
          have hd : P' ++ [p] ++ x :: (S ++ R) = P' ++ p :: x :: (S ++ R) := by simp
          rw [hd]; exact flAt_mid P' _ p i hP
        rw [hp] at hn
        rw [← hL] at hr
        exact rise_last Fl.name hr (by omega)
  rw [← hL, ins_at Fl.name x S hS P key]
  simp
theorem Mid.len {L R : List Fl} {x : Fl} {j : Nat} {d : List Fl} (h : Mid L R x j d) : j ≤ L.length ∧ d.length = L.length + 1 + R.length := by
  obtain ⟨P, S, rfl, hP, hL, hS⟩ := h
  rw [← hL]
  simp
  omega
theorem isort_take {l : List Fl} {i : Nat} (hi : i < l.length) : isort Fl.name (l.take (i + 1)) = ins Fl.name (flAt l i) (isort Fl.name (l.take i)) := by
  rw [← isort_snoc, List.take_succ_eq_append_getElem hi, flAt_get hi]
theorem drop_at {l : List Fl} {i : Nat} (hi : i < l.length) : l.drop i = flAt l i :: l.drop (i + 1) := by
  rw [← flAt_get hi]; exact List.drop_eq_getElem_cons hi
/-- A row of files that a call sorts: its blocks. -/
def blockOf (A : Option Addr) (k : Nat) : Prop := ∃ a, A = some a ∧ k = a.block
def StRel (l : List Fl) (base : Nat) (A : Option Addr) (n cap : Nat) (w : World) (av bv : Value) (wr : World) : Prop := (av = .int .i64 0 ∧ bv = .int .i64 20 ∧ w = wr) ∨ (n = 20 ∧ av = .int .i64 20 ∧ bv = .int .i64 40 ∧ OwnF wr base A n cap (isort Fl.name l) ∧ Keep (blockOf A) w wr)
end Go.Proofs.Ytilmicekpclmbaa
