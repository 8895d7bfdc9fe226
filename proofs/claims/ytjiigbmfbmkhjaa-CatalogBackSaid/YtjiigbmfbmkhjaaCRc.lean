/-
  The document's own PutCatalog (sheafref5): of a right catalog its leaf; of another one zero.
-/
import Derived.Test.YtjiigbmfbmkhjaaCRb
import Derived.Test.YtjiigbmfbmkhjaaCB
import Derived.Test.YtjiigbmfbmkhjaaLRn
import Derived.Laws.CopyOwn
import Derived.Deep.RegionHeldLaw
namespace Go.Proofs.Ytjiigbmfbmkhjaa
set_option linter.unusedVariables false
set_option linter.unusedSimpArgs false
open Go.RowKit

theorem by4_low (n : Int) : lowL n 4 = by4 n := by
  show [n / 2 ^ (8 * 0) % 256, n / 2 ^ (8 * 1) % 256, n / 2 ^ (8 * 2) % 256, n / 2 ^ (8 * 3) % 256] = _
  have e0 : n / 2 ^ (8 * 0) = n := by simp
  have e1 : (2 : Int) ^ (8 * 1) = 256 := by decide
  have e2 : (2 : Int) ^ (8 * 2) = 65536 := by decide
  have e3 : (2 : Int) ^ (8 * 3) = 16777216 := by decide
  rw [e0, e1, e2, e3]
  rfl
theorem low4_any (base g c k : Nat) (n : Int) (xs : List Int) (w : World) (ho : Own w base g c xs) (hk : xs.length = k) (hk1 : k ≤ 1000) (h0 : 0 ≤ n) (h1 : n ≤ 4294967295) (hb : base ≤ w.heap.size) (m : Nat) (hm : m = k + 4) :
    Calls Try.prog 37 #[.slice (some ⟨g, 0, none⟩) k c, .int .i64 n, .int .i64 4] w fun e w' => ∃ g' c', e = .returned (.slice (some ⟨g', 0, none⟩) m c') ∧ Own w' base g' c' (xs ++ by4 n) ∧ Below base w w' := by
  rw [← by4_low, hm]
  exact low_any base g c k 4 n xs w ho hk hk1 (by decide) h0 h1 hb
theorem low2_any (base g c k : Nat) (n : Int) (xs : List Int) (w : World) (ho : Own w base g c xs) (hk : xs.length = k) (hk1 : k ≤ 1000) (h0 : 0 ≤ n) (h1 : n ≤ 4294967295) (hb : base ≤ w.heap.size) (m : Nat) (hm : m = k + 2) :
    Calls Try.prog 37 #[.slice (some ⟨g, 0, none⟩) k c, .int .i64 n, .int .i64 2] w fun e w' => ∃ g' c', e = .returned (.slice (some ⟨g', 0, none⟩) m c') ∧ Own w' base g' c' (xs ++ le2 n) ∧ Below base w w' := by
  rw [← lowL_two, hm]
  exact low_any base g c k 2 n xs w ho hk hk1 (by decide) h0 h1 hb
theorem low2_keep (base g c k : Nat) (n : Int) (xs : List Int) (w : World) (ho : Own w base g c xs) (hk : xs.length = k) (hk1 : k ≤ 1000) (h0 : 0 ≤ n) (h1 : n ≤ 4294967295) (hb : base ≤ w.heap.size) :
    Calls Try.prog 37 #[.slice (some ⟨g, 0, none⟩) k c, .int .i64 n, .int .i64 2] w fun e w' => ∃ g' c', e = .returned (.slice (some ⟨g', 0, none⟩) (k + 2) c') ∧ Own w' base g' c' (xs ++ le2 n) ∧ Keep (· = g) w w' ∧ (g' = g ∨ w.heap.size ≤ g') := by
  rw [← lowL_two]
  exact low_keep base g c k 2 n xs w ho hk hk1 (by decide) h0 h1 hb
theorem Keep.cellK {F : Nat → Prop} {w w' : World} (h : Keep F w w') {a : Addr} (hl : a.block < w.heap.size) (hn : ¬ F a.block) : w'.cell? a = w.cell? a :=
  World.cell?_of_block (h.block a.block hl hn)
def PutC (w : World) (c : Ct) (e : Ending) (w' : World) : Prop := e = .returned (.agg (lv c.putL).toArray) ∧ Below w.heap.size w w'
set_option maxRecDepth 100000 in
set_option maxHeartbeats 8000000 in
theorem rputc_any (c : Ct) (ok : c.Ok) (N : Nat) (A : Option Addr) (n cap : Nat) (w : World) (hl : c.files.length = n) (hm : n ≤ maxLen) (hr : FlR w N A c.files) (hN : N ≤ w.heap.size) :
    Calls Try.prog 18 #[.agg (ctv c A n cap).toArray] w (PutC w c) := by
  have HL := Lib.hid hl; have HR := Lib.hid hr; have OK := Lib.hid ok; have HM := Lib.hid hm
  clear hl hr ok hm
  go_enter Try.func18, Try.ntmps18
  go_wp2_with (with_reducible refine box_ct rfl _ rfl c A n cap rfl ?_)
  intro w1 l1 b1 s1
  obtain ⟨b, hb⟩ : ∃ b, b = w.heap.size := ⟨_, rfl⟩
  rw [← hb] at l1 ⊢
  have L1 := Lib.hid l1; have B1 := Lib.hid b1
  have R1 := Lib.hid (HR.out.below (b1.mono hN))
  have hN1 : N ≤ w1.heap.size := by have := b1.size; omega
  clear hb b1 s1 l1
  go_wp2_with (with_reducible refine alloc_leaf rfl rfl ?_)
  intro w2 l2 b2 s2
  obtain ⟨r, hr⟩ : ∃ r, r = w1.heap.size := ⟨_, rfl⟩
  rw [← hr] at l2 ⊢
  have Z2 := Lib.hid l2
  have L2 := Lib.hid (L1.out.below b2)
  have R2 := Lib.hid (R1.out.below (b2.mono hN1))
  have B2 := Lib.hid (bstep B1.out b2)
  have hN2 : N ≤ w2.heap.size := by have := b2.size; omega
  have hrw : w.heap.size ≤ r := by have := B1.out.size; omega
  have hbr : b < r := by rw [hr]; exact L1.out.lt
  clear hr b2 s2 l2 L1 B1 R1 hN1
  go_wp2_with (with_reducible refine load_ct rfl _ rfl b c A n cap L2.out rfl ?_)
  refine (rcat_any c OK.out N A n cap w2 HL.out HM.out R2.out hN2).mono ?_
  rintro e w3 ⟨rfl, b3⟩
  have Z3 := Lib.hid (Z2.out.below b3)
  have L3 := Lib.hid (L2.out.below b3)
  have R3 := Lib.hid (R2.out.below (b3.mono hN2))
  have B3 := Lib.hid (bstep B2.out b3)
  have hN3 : N ≤ w3.heap.size := by have := b3.size; omega
  clear b3 Z2 L2 R2 B2 hN2
  cases ht : c.rt
  · have PE := Lib.hid (Ct.putL_no (Ct.rt_no.1 ht))
    clear ht
    go_wp2_with (first | (with_reducible refine build_zero rfl rfl ?_) | (with_reducible refine store_leaf rfl _ _ rfl r Lf.zero Lf.zero Z3.out Lf.zero_ok rfl rfl ?_))
    intro w4 l4 k4 s4
    have L4 := Lib.hid l4
    have B4 := Lib.hid (k4.below (fun k hk => by omega) B3.out B3.out.size)
    clear l4 k4 s4
    go_wp2
    refine ret_one 2 rfl rfl L4.out rfl ⟨?_, B4.out⟩
    rw [PE.out]
  · have RG := Lib.hid (Ct.rt_iff.1 ht)
    have PE := Lib.hid (Ct.putL_yes RG.out)
    clear ht
    obtain ⟨g0, g1⟩ := RG.out.g; obtain ⟨s0, s1⟩ := RG.out.s; obtain ⟨t0, t1⟩ := RG.out.t
    obtain ⟨⟨f0, f1⟩, ⟨o0, o1⟩, ⟨d0, d1⟩, ⟨a0, a1⟩⟩ := RG.out.card
    have hn14 : n ≤ 14 := by have := RG.out.m; rw [HL.out] at this; exact this
    obtain ⟨c0, c1, c2, c3, c4, c5, c6, c7, c8⟩ := L3.out.cells
    have LN : Hid (Calls Try.prog 37 #[.slice none 0 0, .int .i64 c.gen, .int .i64 4] w3 fun e w' => ∃ g c', e = .returned (.slice (some ⟨g, 0, none⟩) 4 c') ∧ Own w' w3.heap.size g c' (by4 c.gen) ∧ Below w3.heap.size w3 w') := Lib.hid (by
      rw [← by4_low]
      exact low_nil 4 c.gen w3 (by decide) (by decide) g0 (by omega))
    go_wp2_with fail
    refine LN.out.mono ?_
    rintro e w4 ⟨gb, cb, rfl, o4, b4⟩
    obtain ⟨M, hM⟩ : ∃ M, M = w3.heap.size := ⟨_, rfl⟩
    have O4 : Hid (Own w4 M gb cb (by4 c.gen)) := Lib.hid (by rw [hM]; exact o4)
    have K4 : Hid (Below M w3 w4) := Lib.hid (by rw [hM]; exact b4)
    have hbM : b < M := by rw [hM]; exact L3.out.lt
    have hrM : r < M := by rw [hM]; exact Z3.out.lt
    have hNM : N ≤ M := by omega
    have hM3 : M ≤ w3.heap.size := by omega
    have hwM : w.heap.size ≤ M := by rw [hM]; exact B3.out.size
    have hM4 : M ≤ w4.heap.size := by have := K4.out.size; omega
    clear o4 b4 hM LN
    have e0 := (K4.out.cell (p := ⟨b, 3, none⟩) hbM).trans c3
    go_upto_if 16 with fail
    go_cut [4] (fun v wd => v = .int .i64 (bit01 c.ended) ∧ w4 = wd)
    case first =>
      cases he : c.ended
      · rw [he] at e0
        go_wp2
        go_meet
        case rel => exact ⟨by rw [he]; rfl, rfl⟩
      · rw [he] at e0
        go_wp2
        go_meet
        case rel => exact ⟨by rw [he]; rfl, rfl⟩
    case rest =>
      obtain ⟨rfl, rfl⟩ := hcut
      have eb : 0 ≤ bit01 c.ended ∧ bit01 c.ended ≤ 1 := by unfold bit01; split <;> omega
      obtain ⟨eb0, eb1⟩ := eb
      generalize hE : bit01 c.ended = E at *
      have EE := Lib.hid hE
      clear hE e0
      have x1 := (K4.out.cell (p := ⟨b, 1, none⟩) hbM).trans c1
      have x2 := (K4.out.cell (p := ⟨b, 2, none⟩) hbM).trans c2
      have x4 := (K4.out.cell (p := ⟨b, 4, none⟩) hbM).trans c4
      have x5 := (K4.out.cell (p := ⟨b, 5, none⟩) hbM).trans c5
      have x6 := (K4.out.cell (p := ⟨b, 6, none⟩) hbM).trans c6
      have x7 := (K4.out.cell (p := ⟨b, 7, none⟩) hbM).trans c7
      have x8 := (K4.out.cell (p := ⟨b, 8, none⟩) hbM).trans c8
      clear c0 c1 c2 c3 c4 c5 c6 c7 c8
      have UX : Hid (∀ q, q < ([c.step, c.status, E, c.card.budget, c.card.fan] : List Int).length → U8 (([c.step, c.status, E, c.card.budget, c.card.fan] : List Int).getD q 0)) := Lib.hid (fun q hq => by
        match q, hq with
        | 0, _ => exact ⟨by show 0 ≤ c.step; omega, by show c.step ≤ 255; omega⟩
        | 1, _ => exact ⟨by show 0 ≤ c.status; omega, by show c.status ≤ 255; omega⟩
        | 2, _ => exact ⟨by show 0 ≤ E; omega, by show E ≤ 255; omega⟩
        | 3, _ => exact ⟨by show 0 ≤ c.card.budget; omega, by show c.card.budget ≤ 255; omega⟩
        | 4, _ => exact ⟨by show 0 ≤ c.card.fan; omega, by show c.card.fan ≤ 255; omega⟩)
      go_wp2_with (at_builtin; go_loud (refine app_rd _ rfl _ _ rfl M gb cb 4 (by4 c.gen) rfl rfl (O4.out.alloc _) (w4.heap.size + 1) (some ⟨w4.heap.size, 0, none⟩) 5 5 [c.step, c.status, E, c.card.budget, c.card.fan] rfl rfl ?c1 (fun h => by cases h) ?c2 ?c3 ?_))
      case c1 => exact RdB.lit w4 #[.int .u8 c.step, .int .u8 c.status, .int .u8 E, .int .u8 c.card.budget, .int .u8 c.card.fan] 5 _ [c.step, c.status, E, c.card.budget, c.card.fan] rfl UX.out
      case c2 => decide
      case c3 => simp; omega
      intro g5 c5 w5 o5 hgr
      have gl := O4.out.lt.1
      have K5 : Hid (Below M w4 w5) := Lib.hid (Below.grown ((Below.refl _ _).alloc hM4 _) hgr (by simp; omega) (fun q hq => by injection hq with hq; omega))
      obtain ⟨Y5, hY5⟩ : ∃ Y, Y = by4 c.gen ++ [c.step, c.status, E, c.card.budget, c.card.fan] := ⟨_, rfl⟩
      have O5 : Hid (Own w5 M g5 c5 Y5) := Lib.hid (by rw [hY5]; exact o5)
      have Q5 : Hid (Y5.length = 9) := Lib.hid (by rw [hY5]; rfl)
      obtain ⟨Y6, hY6⟩ : ∃ Y, Y = Y5 ++ by4 c.card.frm := ⟨_, rfl⟩
      have Q6 : Hid (Y6.length = 13) := Lib.hid (by rw [hY6, List.length_append, Q5.out]; rfl)
      have HE : Hid (Y6 ++ by4 c.card.to_ = c.head) := Lib.hid (by rw [hY6, hY5, ← EE.out]; unfold Ct.head; simp only [List.append_assoc])
      have hM5 : M ≤ w5.heap.size := by have := K5.out.size; omega
      have y4 := (K5.out.cell (p := ⟨b, 4, none⟩) hbM).trans x4
      have y5 := (K5.out.cell (p := ⟨b, 5, none⟩) hbM).trans x5
      have y8 := (K5.out.cell (p := ⟨b, 8, none⟩) hbM).trans x8
      have W1 : Hid (∀ g c' W, Own W M g c' Y5 → M ≤ W.heap.size → Calls Try.prog 37 #[.slice (some ⟨g, 0, none⟩) 9 c', .int .i64 c.card.frm, .int .i64 4] W fun e w' => ∃ g' c'', e = .returned (.slice (some ⟨g', 0, none⟩) 13 c'') ∧ Own w' M g' c'' Y6 ∧ Below M W w') := Lib.hid (fun g c' W ho hn => by rw [hY6]; exact low4_any M g c' 9 c.card.frm Y5 W ho Q5.out (by decide) f0 (by omega) hn 13 rfl)
      have W2 : Hid (∀ g c' W, Own W M g c' Y6 → M ≤ W.heap.size → Calls Try.prog 37 #[.slice (some ⟨g, 0, none⟩) 13 c', .int .i64 c.card.to_, .int .i64 4] W fun e w' => ∃ g' c'', e = .returned (.slice (some ⟨g', 0, none⟩) 17 c'') ∧ Own w' M g' c'' c.head ∧ Below M W w') := Lib.hid (fun g c' W ho hn => by rw [← HE.out]; exact low4_any M g c' 13 c.card.to_ Y6 W ho Q6.out (by decide) o0 (by omega) hn 17 rfl)
      clear hY5 hY6 o5 hgr x1 x2 x4 x5 x6 x7 x8 UX O4
      go_wp2_with fail
      go_region_held_law (fun w' => w'.cell? ⟨b, 4, none⟩ = some (.int .i64 c.card.frm) ∧ w'.cell? ⟨b, 5, none⟩ = some (.int .i64 c.card.to_)) (first | exact ⟨y4, y5⟩ | exact ⟨z4, z5⟩ | exact ⟨u4, u5⟩ | go_keep)
        (first
          | (go_at_call 37; (with_reducible refine (W2.out g6 c6 w6 O6.out (by have := K6.out.size; simp at this; omega)).mono ?_); rintro e w7 ⟨g7, c7, rfl, o7, b7⟩; have u4 := (b7.cell (p := ⟨b, 4, none⟩) hbM).trans z4; have u5 := (b7.cell (p := ⟨b, 5, none⟩) hbM).trans z5; have O7 := Lib.hid o7; have K7 := Lib.hid (K6.out.trans b7); clear o7 b7)
          | (go_at_call 37; (with_reducible refine (W1.out g5 c5 w5.drew O5.out.drew (by simpa using hM5)).mono ?_); rintro e w6 ⟨g6, c6, rfl, o6, b6⟩; have z4 := (b6.cell (p := ⟨b, 4, none⟩) hbM).trans y4; have z5 := (b6.cell (p := ⟨b, 5, none⟩) hbM).trans y5; have O6 := Lib.hid o6; have K6 := Lib.hid b6; clear o6 b6))
      have KK : Hid (Below M w3 w7) := Lib.hid (K4.out.trans (K5.out.trans ((Below.refl _ _).drew.trans K7.out)))
      have v8 : w7.cell? ⟨b, 8, none⟩ = some (.slice A n cap) := (K7.out.cell (p := ⟨b, 8, none⟩) hbM).trans y8
      have hM7 : M ≤ w7.heap.size := by have := K7.out.size; simp at this; omega
      clear y4 y5 y8 z4 z5 u4 u5 W1 W2 O5 O6 K4 K5 K6 K7 Q5 Q6 HE
      have O7' : Hid (Own w7 M g7 c7 (c.head ++ flBytes (c.files.take 0))) := Lib.hid (by rw [List.take_zero, show flBytes [] = [] from rfl, List.append_nil]; exact O7.out)
      clear O7
      go_wp2
      go_loopw [3, 6, 48] (fun bv _ iv wr => ∃ i k : Nat, i ≤ n ∧ k = 17 + 7 * i ∧ iv = .int .i64 i ∧ ∃ g c', bv = .slice (some ⟨g, 0, none⟩) k c' ∧ Own wr M g c' (c.head ++ flBytes (c.files.take i)) ∧ Below M w3 wr) (fun _ _ iv _ => n - (intOf iv).toNat)
      case atStart => exact ⟨0, 17, Nat.zero_le _, rfl, rfl, g7, c7, rfl, O7'.out, KK.out⟩
      case round =>
        obtain ⟨i, k, hi, hk, rfl, g, cg, rfl, og, bw⟩ := hrel
        have OG := Lib.hid og; have BW := Lib.hid bw; have HK := Lib.hid hk
        have k115 : k ≤ 115 := by omega
        have hMr : M ≤ wr.heap.size := by have h1 := bw.size; omega
        clear og bw hk
        by_cases hlt : i < n
        · have i1 : decide ((i : Int) < (n : Int)) = true := by rw [decide_eq_true_eq]; omega
          obtain ⟨fb, fo, rfl, hfb, z0, z1, z2, z3, _⟩ := (R3.out.below (BW.out.mono hNM)) i (by rw [HL.out]; exact hlt)
          obtain ⟨⟨n0, n1⟩, ⟨p0, p1⟩, ⟨k0, k1⟩, ⟨q0, q1⟩, _⟩ := RG.out.f i (by rw [HL.out]; exact hlt)
          have NX := Lib.hid (flBytes_snoc c.files i (by rw [HL.out]; exact hlt))
          have BY : Hid ((flAt c.files i).bytes = (flAt c.files i).name :: (le2 (flAt c.files i).file ++ (le2 (flAt c.files i).first ++ le2 (flAt c.files i).blocks))) := Lib.hid rfl
          generalize flAt c.files i = F at *
          obtain ⟨Y0, hY0⟩ : ∃ Y, Y = c.head ++ flBytes (c.files.take i) := ⟨_, rfl⟩
          have Q0 : Hid (Y0.length = k) := Lib.hid (by rw [hY0, List.length_append, c.head_len, flBytes_len, List.length_take, HL.out, Nat.min_eq_left (by omega)]; exact HK.out.symm)
          rw [← hY0] at OG
          obtain ⟨Y1, hY1⟩ : ∃ Y, Y = Y0 ++ [F.name] := ⟨_, rfl⟩
          obtain ⟨Y2, hY2⟩ : ∃ Y, Y = Y1 ++ le2 F.file := ⟨_, rfl⟩
          obtain ⟨Y3, hY3⟩ : ∃ Y, Y = Y2 ++ le2 F.first := ⟨_, rfl⟩
          have Q1 : Hid (Y1.length = k + 1) := Lib.hid (by rw [hY1, List.length_append, Q0.out]; rfl)
          have Q2 : Hid (Y2.length = k + 1 + 2) := Lib.hid (by rw [hY2, List.length_append, Q1.out]; rfl)
          have Q3 : Hid (Y3.length = k + 1 + 2 + 2) := Lib.hid (by rw [hY3, List.length_append, Q2.out]; rfl)
          have YE : Hid (Y3 ++ le2 F.blocks = c.head ++ flBytes (c.files.take (i + 1))) := Lib.hid (by
            rw [NX.out, BY.out, hY3, hY2, hY1, hY0]; simp only [List.append_assoc, List.cons_append, List.nil_append])
          have W1 : Hid (∀ g c' W, Own W M g c' Y1 → M ≤ W.heap.size → Calls Try.prog 37 #[.slice (some ⟨g, 0, none⟩) (k + 1) c', .int .i64 F.file, .int .i64 2] W fun e w' => ∃ g' c'', e = .returned (.slice (some ⟨g', 0, none⟩) (k + 3) c'') ∧ Own w' M g' c'' Y2 ∧ Keep (· = g) W w' ∧ (g' = g ∨ W.heap.size ≤ g')) := Lib.hid (fun g c' W ho hn => by rw [hY2]; exact low2_keep M g c' (k + 1) F.file Y1 W ho Q1.out (by omega) (by omega) (by omega) hn)
          have W2 : Hid (∀ g c' W, Own W M g c' Y2 → M ≤ W.heap.size → Calls Try.prog 37 #[.slice (some ⟨g, 0, none⟩) (k + 3) c', .int .i64 F.first, .int .i64 2] W fun e w' => ∃ g' c'', e = .returned (.slice (some ⟨g', 0, none⟩) (k + 5) c'') ∧ Own w' M g' c'' Y3 ∧ Keep (· = g) W w' ∧ (g' = g ∨ W.heap.size ≤ g')) := Lib.hid (fun g c' W ho hn => by rw [hY3]; exact low2_keep M g c' (k + 1 + 2) F.first Y2 W ho Q2.out (by omega) (by omega) (by omega) hn)
          have W3 : Hid (∀ g c' W, Own W M g c' Y3 → M ≤ W.heap.size → Calls Try.prog 37 #[.slice (some ⟨g, 0, none⟩) (k + 5) c', .int .i64 F.blocks, .int .i64 2] W fun e w' => ∃ g' c'', e = .returned (.slice (some ⟨g', 0, none⟩) (k + 7) c'') ∧ Own w' M g' c'' (c.head ++ flBytes (c.files.take (i + 1))) ∧ Keep (· = g) W w' ∧ (g' = g ∨ W.heap.size ≤ g')) := Lib.hid (fun g c' W ho hn => by rw [← YE.out]; exact low2_keep M g c' (k + 1 + 2 + 2) F.blocks Y3 W ho Q3.out (by omega) (by omega) (by omega) hn)
          have HY1 := Lib.hid hY1
          clear hY0 hY1 hY2 hY3 NX BY Q2 Q3 YE
          go_upto_region 12 with fail
          obtain ⟨f, hf⟩ : ∃ f, f = wr.heap.size := ⟨_, rfl⟩
          obtain ⟨W, hW⟩ : ∃ W, W = wr.alloc (.cells #[.int .i64 F.name, .int .i64 F.file, .int .i64 F.first, .int .i64 F.blocks] 25) := ⟨_, rfl⟩
          rw [← hW, ← hf]
          have y0 : W.cell? ⟨f, 0, none⟩ = some (.int .i64 F.name) := by rw [hW, hf]; exact cell_of_row _ _ _ _ _ _ (heap_alloc_new wr _)
          have y1 : W.cell? ⟨f, 1, none⟩ = some (.int .i64 F.file) := by rw [hW, hf]; exact cell_of_row _ _ _ _ _ _ (heap_alloc_new wr _)
          have y2 : W.cell? ⟨f, 2, none⟩ = some (.int .i64 F.first) := by rw [hW, hf]; exact cell_of_row _ _ _ _ _ _ (heap_alloc_new wr _)
          have y3 : W.cell? ⟨f, 3, none⟩ = some (.int .i64 F.blocks) := by rw [hW, hf]; exact cell_of_row _ _ _ _ _ _ (heap_alloc_new wr _)
          have bW : Below wr.heap.size wr W := by rw [hW]; exact (Below.refl _ _).alloc (Nat.le_refl _) _
          have OW := Lib.hid (OG.out.below bW)
          have BW2 : Hid (Below M w3 W) := Lib.hid (BW.out.trans (bW.mono hMr))
          have hfW : f < W.heap.size := by rw [hW, hf]; simp
          have hgf : g < f := by rw [hf]; exact OG.out.lt.2
          have hMW : M ≤ W.heap.size := by omega
          have hMg : M ≤ g := OG.out.lt.1
          clear hf hW bW OG BW z0 z1 z2 z3
          have UX : Hid (∀ q, q < ([F.name] : List Int).length → U8 (([F.name] : List Int).getD q 0)) := Lib.hid (fun q hq => by
            obtain rfl : q = 0 := by simp at hq; omega
            exact ⟨by show 0 ≤ F.name; omega, by show F.name ≤ 255; omega⟩)
          go_wp2_with (at_builtin; go_loud (refine app_at _ rfl _ _ rfl M g cg k Y0 Q0.out rfl (OW.out.alloc _) (W.heap.size + 1) (some ⟨W.heap.size, 0, none⟩) 1 1 [F.name] rfl rfl ?c4 (by decide) ?c5 ?c6 ?_))
          case c4 => exact RdB.lit W #[.int .u8 F.name] 5 _ [F.name] rfl UX.out
          case c5 => omega
          case c6 => simp; omega
          intro g8 c8 w8 o8 k8 l8
          have hs8 : W.heap.size < w8.heap.size := by have := k8.size; simp at this; omega
          have O8 : Hid (Own w8 M g8 c8 Y1) := Lib.hid (by rw [HY1.out]; exact o8)
          have hf8 : f ≠ g8 ∧ f < w8.heap.size := by
            refine ⟨?_, by omega⟩
            rcases l8 with e | e
            · omega
            · first | omega | (simp at e; omega)
          have x1 : w8.cell? ⟨f, 1, none⟩ = some (.int .i64 F.file) := (k8.cellK (a := ⟨f, 1, none⟩) (by show f < _; simp; omega) (by show ¬ f = g; omega)).trans ((World.cell?_alloc_lt _ _ _ hfW).trans y1)
          have x2 : w8.cell? ⟨f, 2, none⟩ = some (.int .i64 F.first) := (k8.cellK (a := ⟨f, 2, none⟩) (by show f < _; simp; omega) (by show ¬ f = g; omega)).trans ((World.cell?_alloc_lt _ _ _ hfW).trans y2)
          have x3 : w8.cell? ⟨f, 3, none⟩ = some (.int .i64 F.blocks) := (k8.cellK (a := ⟨f, 3, none⟩) (by show f < _; simp; omega) (by show ¬ f = g; omega)).trans ((World.cell?_alloc_lt _ _ _ hfW).trans y3)
          have BW8 : Hid (Below M w3 w8) := Lib.hid (k8.below (fun q hq => by omega) (BW2.out.alloc hMW _) (by simp; omega))
          obtain ⟨hf8a, hf8b⟩ := hf8
          have hM8 : M ≤ w8.heap.size := by omega
          clear o8 k8 l8 y0 y1 y2 y3 OW BW2 UX HY1
          go_wp2_with fail
          go_region_held_law (fun w' => w'.cell? ⟨f, 1, none⟩ = some (.int .i64 F.file) ∧ w'.cell? ⟨f, 2, none⟩ = some (.int .i64 F.first) ∧ w'.cell? ⟨f, 3, none⟩ = some (.int .i64 F.blocks)) (first | exact ⟨x1, x2, x3⟩ | exact ⟨r1, r2, r3⟩ | exact ⟨t1', t2', t3'⟩ | exact ⟨v1, v2, v3⟩ | go_keep)
            (first
              | (go_at_call 37; (with_reducible refine (W3.out g10 c10 w10 O10.out hM10).mono ?_); rintro e w11 ⟨g11, c11, rfl, o11, k11, l11⟩; have v1 := (k11.cellK (a := ⟨f, 1, none⟩) hf10b hf10a).trans t1'; have v2 := (k11.cellK (a := ⟨f, 2, none⟩) hf10b hf10a).trans t2'; have v3 := (k11.cellK (a := ⟨f, 3, none⟩) hf10b hf10a).trans t3'; have O11 := Lib.hid o11; have BW11 : Hid (Below M w3 w11) := Lib.hid (k11.below (fun q hq => by rw [hq]; exact O10.out.lt.1) BW10.out hM10); clear o11 k11 l11)
              | (go_at_call 37; (with_reducible refine (W2.out g9 c9 w9 O9.out hM9).mono ?_); rintro e w10 ⟨g10, c10, rfl, o10, k10, l10⟩; have t1' := (k10.cellK (a := ⟨f, 1, none⟩) hf9b hf9a).trans r1; have t2' := (k10.cellK (a := ⟨f, 2, none⟩) hf9b hf9a).trans r2; have t3' := (k10.cellK (a := ⟨f, 3, none⟩) hf9b hf9a).trans r3; have O10 := Lib.hid o10; have hf10a : f ≠ g10 := (by rcases l10 with e | e; rw [e]; exact hf9a; omega); have hf10b : f < w10.heap.size := (by have := k10.size; omega); have hM10 : M ≤ w10.heap.size := (by have := k10.size; omega); have BW10 : Hid (Below M w3 w10) := Lib.hid (k10.below (fun q hq => by rw [hq]; exact O9.out.lt.1) BW9.out hM9); clear o10 k10 l10)
              | (go_at_call 37; (with_reducible refine (W1.out g8 c8 w8.drew O8.out.drew (by simpa using hM8)).mono ?_); rintro e w9 ⟨g9, c9, rfl, o9, k9, l9⟩; have r1 := (k9.cellK (a := ⟨f, 1, none⟩) hf8b hf8a).trans x1; have r2 := (k9.cellK (a := ⟨f, 2, none⟩) hf8b hf8a).trans x2; have r3 := (k9.cellK (a := ⟨f, 3, none⟩) hf8b hf8a).trans x3; have O9 := Lib.hid o9; have sz9 : w8.heap.size ≤ w9.heap.size := k9.size; have hf9a : f ≠ g9 := (by rcases l9 with e | e; rw [e]; exact hf8a; (have e : w8.heap.size ≤ g9 := e; omega)); have hf9b : f < w9.heap.size := (by omega); have hM9 : M ≤ w9.heap.size := (by omega); have BW9 : Hid (Below M w3 w9) := Lib.hid (k9.below (fun q hq => by rw [hq]; exact O8.out.lt.1) BW8.out.drew (by simpa using hM8)); clear o9 k9 l9))
          all_goals
            clear x1 x2 x3 r1 r2 r3 t1' t2' t3' v1 v2 v3 W1 W2 W3
            go_wp2
            go_roundw
            case rel => exact ⟨i + 1, k + 7, by omega, by have := HK.out; omega, by go_num, g11, c11, rfl, O11.out, BW11.out⟩
            case measure => simp [intOf]; omega
        · obtain rfl : i = n := by omega
          have i1 : decide ((i : Int) < (i : Int)) = false := by simp
          have OB : Hid (Own wr M g cg c.bytes) := Lib.hid (by
            have := OG.out
            rw [List.take_of_length_le (by rw [HL.out]; exact Nat.le_refl _)] at this
            exact this)
          have LB : Hid (c.bytes.length = k) := Lib.hid (by rw [c.bytes_len, HL.out]; exact HK.out.symm)
          have Z4 : Hid (LfAt wr r Lf.zero) := Lib.hid (Z3.out.same (BW.out.block r hrM))
          have B4 : Hid (Below w.heap.size w wr) := Lib.hid (B3.out.trans (BW.out.mono hwM))
          have hrg : r ≠ g := by have := OG.out.lt.1; omega
          clear OG BW KK Z3 B3
          go_wp2_with (first | (with_reducible refine build_two rfl _ _ rfl 2 (k : Int) rfl rfl ?_) | (with_reducible refine alloc_leaf rfl rfl ?_))
          intro v1 l1 b1 s1'
          obtain ⟨l, hl⟩ : ∃ l, l = wr.heap.size := ⟨_, rfl⟩
          rw [← hl] at l1 ⊢
          have A1 := Lib.hid l1
          have O5 := Lib.hid (OB.out.below b1)
          have Z5 := Lib.hid (Z4.out.below b1)
          have B5 := Lib.hid (bstep B4.out b1)
          have hgl : g < l := by rw [hl]; exact OB.out.lt.2
          have hrl : r < l := by rw [hl]; exact Z4.out.lt
          have hlw : w.heap.size ≤ l := by rw [hl]; exact B4.out.size
          clear hl l1 b1 s1' OB Z4 B4
          have OK0 : Hid (Lf.Ok ⟨2, 0, 0, 0, (k : Int), zeros 116⟩) := Lib.hid ⟨by show _ ≤ (2 : Int) ∧ (2 : Int) ≤ _; decide, by show _ ≤ (0 : Int) ∧ (0 : Int) ≤ _; decide, by show _ ≤ (0 : Int) ∧ (0 : Int) ≤ _; decide, by show _ ≤ (0 : Int) ∧ (0 : Int) ≤ _; decide, by show _ ≤ (k : Int) ∧ (k : Int) ≤ _; omega, zeros_length _, fun j hj => by show U8 ((zeros 116).getD j 0); rw [zeros_at]; exact ⟨by decide, by decide⟩⟩
          go_wp2_with (with_reducible refine store_leaf rfl _ _ rfl l Lf.zero ⟨2, 0, 0, 0, (k : Int), zeros 116⟩ A1.out OK0.out rfl rfl ?_)
          intro v2 l2 k2 s2
          have A2 := Lib.hid l2
          have O6 := Lib.hid (k2.own O5.out (by omega))
          have Z6 : Hid (LfAt v2 r Lf.zero) := Lib.hid (Z5.out.same (k2.block r Z5.out.lt (by omega)))
          have B6 := Lib.hid (k2.below (fun k hk => by omega) B5.out B5.out.size)
          have RB := Lib.hid O6.out.reads
          clear l2 k2 s2 A1 O5 Z5 B5
          have hsz : (Try.prog.info? 5).map (·.size) = some 1 := by kernel_rfl
          have VL : Hid ((vals c.bytes).length = k) := Lib.hid (by rw [vals_length, LB.out])
          go_wp2_with (with_reducible refine wpList_copy_splice rfl _ _ 45 45 rfl 5 Try.underlying45 hsz (some ⟨l, 5, none⟩) (some ⟨g, 0, none⟩) 116 116 k cg rfl rfl l 5 (lv ⟨2, 0, 0, 0, (k : Int), zeros 116⟩) 32 A2.out.heap (vals c.bytes) ?c7 ?c8 ?c9 ?c10 l v2 (Below.refl _ _) (Nat.le_refl _) ?_)
          case c7 => rw [VL.out]; exact (Nat.min_eq_left (by omega)).symm
          case c8 => exact fun _ j v hv => (by have := RB.out.news j v hv; rw [Addr.add_mid] at this; first | exact this | simpa using this)
          case c9 => rw [VL.out, lv_len OK0.out]; omega
          case c10 => exact vals_one _
          intro v3 hg3 hb3
          have SE : Hid (splice (lv ⟨2, 0, 0, 0, (k : Int), zeros 116⟩) 5 (vals c.bytes) = lv c.leaf) := Lib.hid (by
            unfold splice
            rw [VL.out]
            have e : (lv ⟨2, 0, 0, 0, (k : Int), zeros 116⟩).drop (5 + k) = vals (zeros (116 - k)) := by
              rw [Nat.add_comm]
              show (vals (zeros 116)).drop k = _
              unfold vals zeros
              rw [← List.map_drop, List.drop_replicate]
            rw [e, vals_append]
            unfold Ct.leaf
            rw [LB.out]
            rfl)
          have A3 : Hid (LfAt v3 l c.leaf) := Lib.hid ⟨by have := hg3.out; rw [SE.out] at this; exact this, Ct.leaf_ok RG.out⟩
          have Z7 : Hid (LfAt v3 r Lf.zero) := Lib.hid (Z6.out.same (hb3.block r hrl))
          have B7 : Hid (Below w.heap.size w v3) := Lib.hid (B6.out.trans (hb3.mono hlw))
          have LO := Lib.hid (Ct.leaf_ok RG.out)
          clear hg3 hb3 A2 O6 Z6 B6 RB VL SE
          go_wp2_with (first | (with_reducible refine load_leaf rfl _ rfl l c.leaf A3.out rfl ?_) | (with_reducible refine store_leaf rfl _ _ rfl r Lf.zero c.leaf Z7.out LO.out rfl rfl ?_))
          intro v4 l4 k4 s4
          have A4 := Lib.hid l4
          have B8 := Lib.hid (k4.below (fun k hk => by omega) B7.out B7.out.size)
          clear l4 k4 s4
          go_wp2
          refine ret_one 2 rfl rfl A4.out rfl ⟨?_, B8.out⟩
          rw [PE.out]
end Go.Proofs.Ytjiigbmfbmkhjaa
