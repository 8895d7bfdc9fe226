/-
  The document's own PutLeaf (sheafref5): of a right leaf its block, in new memory; of another one none.
-/
import Derived.Test.YtkmlajlnpfoepaaLRb
import Derived.Test.YtkmlajlnpfoepaaLP
import Derived.Test.YtkmlajlnpfoepaaRefCrc
import Derived.Deep.RegionHeldLaw
import Derived.Handy
namespace Go.Proofs.Ytkmlajlnpfoepaa
set_option linter.unusedVariables false
set_option linter.unusedSimpArgs false
open Go.RowKit

theorem rput_no (L : Lf) (h : L.Ok) (hr : L.rt = false) (w : World) :
    Calls Try.prog 15 #[.agg (lv L).toArray] w fun e w' => e = .returned (.slice none 0 0) ∧ Below w.heap.size w w' := by
  have H := Lib.hid h; have HR := Lib.hid hr
  have RT := Lib.hid (fun w0 => rright_any L h w0)
  clear h hr
  go_enter Try.func15, Try.ntmps15
  go_wp2_with (with_reducible refine box_leaf rfl _ rfl L H.out rfl ?_)
  intro w1 l1 b1 s1
  obtain ⟨b, hb⟩ : ∃ b, b = w.heap.size := ⟨_, rfl⟩
  rw [← hb] at l1 ⊢
  have L1 := Lib.hid l1; have B1 := Lib.hid b1
  clear hb b1 s1 l1
  go_wp2_with (with_reducible refine load_leaf rfl _ rfl b L L1.out rfl ?_)
  refine (RT.out w1).mono ?_
  rintro e w2 ⟨rfl, b2⟩
  rw [HR.out]
  have B2 := Lib.hid (bstep B1.out b2)
  clear b2
  go_wp2
  go_ret
  exact ⟨rfl, B2.out⟩
theorem rcrc_n (B : Nat) (A : Option Addr) (n cap : Nat) (xs : List Int) (hl : xs.length = n) (hm : n ≤ maxLen) (w : World) (hr : RdB w B A xs) :
    Calls Try.prog 22 #[.slice A n cap] w fun e w' => e = .returned (.int .u32 (wrd (crc xs))) ∧ w = w' := by
  subst hl
  exact rcrc_any B A cap xs hm w hr
set_option maxRecDepth 100000 in
set_option maxHeartbeats 2000000 in
theorem rput_yes (L : Lf) (h : L.Ok) (hr : L.rt = true) (w : World) :
    Calls Try.prog 15 #[.agg (lv L).toArray] w (PutL w L) := by
  have H := Lib.hid h; have HR := Lib.hid hr
  have RT := Lib.hid (fun w0 => rright_any L h w0)
  have RG := Lib.hid ((Lf.rt_iff h).1 hr)
  clear h hr
  go_enter Try.func15, Try.ntmps15
  go_wp2_with (with_reducible refine box_leaf rfl _ rfl L H.out rfl ?_)
  intro w1 l1 b1 s1
  obtain ⟨b, hb⟩ : ∃ b, b = w.heap.size := ⟨_, rfl⟩
  rw [← hb] at l1 ⊢
  have L1 := Lib.hid l1; have B1 := Lib.hid b1
  have hbw : w.heap.size ≤ b := by omega
  clear hb b1 s1 l1
  go_wp2_with (with_reducible refine load_leaf rfl _ rfl b L L1.out rfl ?_)
  refine (RT.out w1).mono ?_
  rintro e w2 ⟨rfl, b2⟩
  rw [HR.out]
  have L2 := Lib.hid (L1.out.below b2)
  have B2 := Lib.hid (bstep B1.out b2)
  clear b2 L1 B1
  have LL : Hid (L.load.length = 116) := Lib.hid H.out.l
  go_wp2_with (at_builtin; go_loud (refine app_rd _ rfl _ _ rfl w2.heap.size w2.heap.size 0 0 [] rfl rfl (Own.empty w2 _ (Nat.le_refl _)) w2.heap.size (some ⟨b, 5, none⟩) 116 116 L.load LL.out rfl ?c1 (fun h => by cases h) ?c2 ?c3 ?_))
  case c1 => exact L2.out.reads.below ((Below.refl _ _).alloc (Nat.le_refl _) _)
  case c2 => decide
  case c3 => simp
  intro g3 c3 w3 o3 hgr
  obtain ⟨N, hN⟩ : ∃ N, N = w2.heap.size := ⟨_, rfl⟩
  have K3 : Hid (Below N w2 w3) := Lib.hid (by rw [hN]; exact below_grown ((Below.refl _ _).alloc (Nat.le_refl _) _) hgr (Nat.le_refl _))
  have O3 : Hid (Own w3 N g3 c3 L.load) := Lib.hid (by rw [hN]; exact o3)
  have hbN : b < N := by rw [hN]; exact L2.out.lt
  have B3 : Hid (Below w.heap.size w w3) := Lib.hid (B2.out.trans (K3.out.mono (by have := B2.out.size; omega)))
  have L3 : Hid (LfAt w3 b L) := Lib.hid (L2.out.same (K3.out.block b hbN))
  have hwN : w.heap.size ≤ N := by rw [hN]; exact B2.out.size
  have hN3 : N ≤ w3.heap.size := by have := K3.out.size; omega
  clear o3 hgr hN L2 B2 K3
  obtain ⟨rk, ⟨f0, f1⟩, ⟨p0, p1⟩, ⟨n0, n1⟩, ⟨s0, s1⟩, _⟩ := RG.out
  have k1 := L3.out.file; have k2 := L3.out.place; have k3 := L3.out.next
  obtain ⟨Y1, hY1⟩ : ∃ Y, Y = L.load ++ le2 L.file := ⟨_, rfl⟩
  obtain ⟨Y2, hY2⟩ : ∃ Y, Y = Y1 ++ le2 L.place := ⟨_, rfl⟩
  obtain ⟨Y3, hY3⟩ : ∃ Y, Y = Y2 ++ le2 L.next := ⟨_, rfl⟩
  have Q1 : Hid (Y1.length = 118) := Lib.hid (by rw [hY1, List.length_append, LL.out]; rfl)
  have Q2 : Hid (Y2.length = 120) := Lib.hid (by rw [hY2, List.length_append, Q1.out]; rfl)
  have Q3 : Hid (Y3.length = 122) := Lib.hid (by rw [hY3, List.length_append, Q2.out]; rfl)
  have W1 : Hid (∀ g c W, Own W N g c L.load → N ≤ W.heap.size → Calls Try.prog 25 #[.slice (some ⟨g, 0, none⟩) 116 c, .int .i64 L.file, .int .i64 2] W fun e w' => ∃ g' c', e = .returned (.slice (some ⟨g', 0, none⟩) 118 c') ∧ Own w' N g' c' Y1 ∧ Below N W w') := Lib.hid (fun g c W ho hn => by
    rw [hY1, ← lowL_two]
    exact low_any N g c 116 2 L.file L.load W ho LL.out (by decide) (by decide) f0 (by omega) hn)
  have W2 : Hid (∀ g c W, Own W N g c Y1 → N ≤ W.heap.size → Calls Try.prog 25 #[.slice (some ⟨g, 0, none⟩) 118 c, .int .i64 L.place, .int .i64 2] W fun e w' => ∃ g' c', e = .returned (.slice (some ⟨g', 0, none⟩) 120 c') ∧ Own w' N g' c' Y2 ∧ Below N W w') := Lib.hid (fun g c W ho hn => by
    rw [hY2, ← lowL_two]
    exact low_any N g c 118 2 L.place Y1 W ho Q1.out (by decide) (by decide) p0 (by omega) hn)
  have W3 : Hid (∀ g c W, Own W N g c Y2 → N ≤ W.heap.size → Calls Try.prog 25 #[.slice (some ⟨g, 0, none⟩) 120 c, .int .i64 L.next, .int .i64 2] W fun e w' => ∃ g' c', e = .returned (.slice (some ⟨g', 0, none⟩) 122 c') ∧ Own w' N g' c' Y3 ∧ Below N W w') := Lib.hid (fun g c W ho hn => by
    rw [hY3, ← lowL_two]
    exact low_any N g c 120 2 L.next Y2 W ho Q2.out (by decide) (by decide) n0 (by omega) hn)
  have E3 : Hid (Y3 = L.load ++ (le2 L.file ++ (le2 L.place ++ le2 L.next))) := Lib.hid (by rw [hY3, hY2, hY1]; simp only [List.append_assoc])
  clear hY1 hY2 hY3
  go_wp2_with fail
  go_region_held_law (fun w' => w'.cell? ⟨b, 1, none⟩ = some (.int .i64 L.file) ∧ w'.cell? ⟨b, 2, none⟩ = some (.int .i64 L.place) ∧ w'.cell? ⟨b, 3, none⟩ = some (.int .i64 L.next)) (first | exact ⟨k1, k2, k3⟩ | exact ⟨x1, x2, x3⟩ | exact ⟨y1, y2, y3⟩ | exact ⟨z1, z2, z3⟩ | go_keep)
    (first
      | (go_at_call 25; (with_reducible refine (W3.out g5 c5 w5 O5.out (by have := K5.out.size; simp at this; omega)).mono ?_); rintro e w6 ⟨g6, c6, rfl, o6, b6⟩; have z1 := (b6.cell (p := ⟨b, 1, none⟩) hbN).trans y1; have z2 := (b6.cell (p := ⟨b, 2, none⟩) hbN).trans y2; have z3 := (b6.cell (p := ⟨b, 3, none⟩) hbN).trans y3; have O6 := Lib.hid o6; have K6 := Lib.hid (K5.out.trans b6); clear o6 b6)
      | (go_at_call 25; (with_reducible refine (W2.out g4 c4 w4 O4.out (by have := K4.out.size; simp at this; omega)).mono ?_); rintro e w5 ⟨g5, c5, rfl, o5, b5⟩; have y1 := (b5.cell (p := ⟨b, 1, none⟩) hbN).trans x1; have y2 := (b5.cell (p := ⟨b, 2, none⟩) hbN).trans x2; have y3 := (b5.cell (p := ⟨b, 3, none⟩) hbN).trans x3; have O5 := Lib.hid o5; have K5 := Lib.hid (K4.out.trans b5); clear o5 b5)
      | (go_at_call 25; (with_reducible refine (W1.out g3 c3 w3.drew O3.out.drew (by simpa using hN3)).mono ?_); rintro e w4 ⟨g4, c4, rfl, o4, b4⟩; have x1 := (b4.cell (p := ⟨b, 1, none⟩) hbN).trans k1; have x2 := (b4.cell (p := ⟨b, 2, none⟩) hbN).trans k2; have x3 := (b4.cell (p := ⟨b, 3, none⟩) hbN).trans k3; have O4 := Lib.hid o4; have K4 := Lib.hid b4; clear o4 b4))
  have L6 : Hid (LfAt w6 b L) := Lib.hid (L3.out.same (K6.out.block b hbN))
  have B6 : Hid (Below w.heap.size w w6) := Lib.hid (B3.out.drew.trans (K6.out.mono hwN))
  have hN6 : N ≤ w6.heap.size := by have := K6.out.size; simp at this; omega
  have e4 := L6.out.size; have e0 := L6.out.kind
  have kb0 : 1 ≤ L.kind := by omega
  have kb1 : L.kind ≤ 2 := by omega
  have UX : Hid (∀ q, q < ([L.size, L.kind] : List Int).length → U8 (([L.size, L.kind] : List Int).getD q 0)) := Lib.hid (fun q hq => by
    match q, hq with
    | 0, _ => exact ⟨by show 0 ≤ L.size; omega, by show L.size ≤ 255; omega⟩
    | 1, _ => exact ⟨by show 0 ≤ L.kind; omega, by show L.kind ≤ 255; omega⟩)
  clear k1 k2 k3 x1 x2 x3 y1 y2 y3 z1 z2 z3 W1 W2 W3 O3 O4 O5 K4 K5 B3 L3 Q1 Q2
  go_wp2_with (at_builtin; go_loud (refine app_rd _ rfl _ _ rfl N g6 c6 122 Y3 Q3.out rfl (O6.out.alloc _) (w6.heap.size + 1) (some ⟨w6.heap.size, 0, none⟩) 2 2 [L.size, L.kind] rfl rfl ?c4 (fun h => by cases h) ?c5 ?c6 ?_))
  case c4 => exact RdB.lit w6 #[.int .u8 L.size, .int .u8 L.kind] 5 _ [L.size, L.kind] rfl UX.out
  case c5 => decide
  case c6 => simp; omega
  intro g7 c7 w7 o7 hgr
  have gl := O6.out.lt.1
  have BE : Hid (Y3 ++ [L.size, L.kind] = L.body) := Lib.hid (by rw [E3.out]; unfold Lf.body Lf.tail; simp only [List.append_assoc])
  have O7 : Hid (Own w7 N g7 c7 L.body) := Lib.hid (by rw [← BE.out]; exact o7)
  have K7 : Hid (Below N w6 w7) := Lib.hid (Below.grown ((Below.refl _ _).alloc hN6 _) hgr (by simp; omega) (fun q hq => by injection hq with hq; omega))
  have B7 : Hid (Below w.heap.size w w7) := Lib.hid (B6.out.trans (K7.out.mono hwN))
  have hN7 : N ≤ w7.heap.size := by have := K7.out.size; omega
  have BL := Lib.hid (Lf.body_len H.out)
  clear o7 hgr B6 L6 K6 K7 O6 UX e0 e4
  have CR := Lib.hid (rcrc_n w7.heap.size (some ⟨g7, 0, none⟩) 124 c7 L.body BL.out (by decide) w7 O7.out.reads)
  obtain ⟨D, hD⟩ : ∃ D, D = crc L.body := ⟨_, rfl⟩
  rw [← hD] at CR
  have LW : Hid (Calls Try.prog 25 #[.slice (some ⟨g7, 0, none⟩) 124 c7, .int .i64 (wrd D), .int .i64 4] w7 fun e w' => ∃ g' c', e = .returned (.slice (some ⟨g', 0, none⟩) 128 c') ∧ Own w' N g' c' L.put ∧ Below N w7 w') := Lib.hid (by
    unfold Lf.put
    rw [← hD, ← lowL_four]
    exact low_any N g7 c7 124 4 (wrd D) L.body w7 O7.out BL.out (by decide) (by decide) (u32_bd D).1 (u32_bd D).2 hN7)
  obtain ⟨q0, q1⟩ := u32_bd D
  clear hD
  go_wp2_with fail
  refine CR.out.mono ?_
  rintro e w8 ⟨rfl, rfl⟩
  go_wp2_with fail
  refine LW.out.mono ?_
  rintro e w9 ⟨g9, c9, rfl, o9, b9⟩
  have O9 : Hid (Own w9 w.heap.size g9 c9 L.put) := Lib.hid (o9.base hwN)
  have B9 : Hid (Below w.heap.size w w9) := Lib.hid (B7.out.trans (b9.mono hwN))
  clear o9 b9
  go_wp2
  go_ret
  exact ⟨g9, c9, rfl, O9.out, B9.out⟩
end Go.Proofs.Ytkmlajlnpfoepaa
