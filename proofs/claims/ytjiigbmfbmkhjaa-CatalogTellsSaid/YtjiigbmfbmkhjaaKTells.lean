/-
  The walk of the statement CatalogTells: the call returns true; nothing that was in memory turns.
-/
import Derived.Test.YtjiigbmfbmkhjaaKRuns
import Derived.Test.YtjiigbmfbmkhjaaZ2
import Derived.Test.YtjiigbmfbmkhjaaCRd
import Derived.Lib.MinMax
namespace Go.Proofs.Ytjiigbmfbmkhjaa
set_option linter.unusedVariables false
set_option linter.unusedSimpArgs false
set_option maxRecDepth 100000
open Go.RowKit

section
variable {o : Oper} {a : Act} {w : World}
theorem exec_eql_lf {x y : Operand} {t : TypeId} (ho : o.op = .binOp .eql 32 x y t) {L M : Lf} (hl : L.Ok) (hm : M.Ok) (hx : a.eval x = .agg (lv L).toArray) (hy : a.eval y = .agg (lv M).toArray) : (execOp a.eval o).run Try.prog w = .ok (.value (.bool (decide (L = M)))) w := by
  unfold execOp
  simp only [ho, hx, hy, eqlLf_eq, lf_guard, eqlLf_run hl hm, Sem.run_bind, Sem.run_pure, Result.andThen_ok]
end
theorem gotC_right (L : Lf) : (gotC L).Right := by
  by_cases h : L.IsCt
  · rw [(gotC_some h).1]; exact h.c
  · rw [(gotC_none h).1]; exact Ct.zero_right
theorem right_ok {c : Ct} (h : c.Right) : c.Ok := by
  obtain ⟨h1, h2, h3, h4⟩ := h.card
  have g := h.g; have s := h.s; have t := h.t
  exact ⟨⟨by omega, by omega⟩, ⟨by omega, by omega⟩, ⟨by omega, by omega⟩, ⟨⟨by omega, by omega⟩, ⟨by omega, by omega⟩, ⟨by omega, by omega⟩, ⟨by omega, by omega⟩⟩⟩
set_option maxHeartbeats 8000000 in
theorem ktells_any (c : Ct) (A : Option Addr) (n0 cap : Nat) (L : Lf) (at_ x : Int) (own : Bool) (w : World) (hc : CtIn w c A n0 cap) (hL : L.Ok) (hat : I64 at_) (hx : U8 x) :
    Calls Try.prog 4 #[.agg (ctv c A n0 cap).toArray, .agg (lv L).toArray, .int .i64 at_, .int .u8 x, .bool own] w fun e w' => e = .returned (.bool true) ∧ Below w.heap.size w w' := by
  obtain ⟨n, hn⟩ : ∃ n : Nat, n = min n0 16 := ⟨_, rfl⟩
  have e1 : min (n0 : Int) 16 = (n : Int) := by omega
  obtain ⟨D, hD⟩ : ∃ D : Ct, D = { c with files := c.files.take n } := ⟨_, rfl⟩
  have IN : Hid (CtIn w D A n cap) := Lib.hid (by rw [hD]; exact hc.take (by omega))
  have hn16 : n ≤ 16 := by omega
  have hnc : n ≤ cap := IN.out.le
  have hcm : cap ≤ 9223372036854775807 := IN.out.mx
  have n0c := hc.le
  have LOK := Lib.hid hL; have HAT := Lib.hid hat; have HX := Lib.hid hx
  have HD := Lib.hid hD
  have nil0 := hc.nil
  clear hn hD hc hL hat hx
  go_enter Try.func4, Try.ntmps4
  go_wp2_with (with_reducible refine box_ct rfl _ rfl c A n0 cap rfl ?_)
  intro w1 l1 b1 s1
  obtain ⟨b, hb⟩ : ∃ b, b = w.heap.size := ⟨_, rfl⟩
  rw [← hb] at l1 ⊢
  have S1 := Lib.hid s1; have HB := Lib.hid hb; have L1 := Lib.hid l1; have B1 := Lib.hid b1
  have hbw : w.heap.size ≤ b := by omega
  clear s1 hb l1 b1
  go_wp2_with (with_reducible refine box_leaf rfl _ rfl L LOK.out rfl ?_)
  intro w2 l2 b2 s2
  obtain ⟨q, hq⟩ : ∃ q, q = w1.heap.size := ⟨_, rfl⟩
  rw [← hq] at l2 ⊢
  have hbq : b < q := by have := S1.out; have := HB.out; omega
  have B2 := Lib.hid (bstep B1.out b2)
  have C2 := Lib.hid (L1.out.below b2)
  have Q2 := Lib.hid l2
  clear l2 b2 s2 hq S1 HB L1 B1
  obtain ⟨_, _, _, _, _, _, _, _, x8⟩ := C2.out.cells
  have fz8 := Arr.frozen C2.out 8
  have g1 : (n : Int) ≤ (cap : Int) := by omega
  have g2 : (0 : Int) ≤ (n : Int) := by omega
  have C3 : Hid (CtAt (w2.setCell ⟨b, 8, none⟩ (.slice A n cap)) b D A n cap) := Lib.hid (by rw [HD.out]; exact CtAt.files (c := { c with files := c.files.take n }) C2.out)
  have Q3 : Hid (LfAt (w2.setCell ⟨b, 8, none⟩ (.slice A n cap)) q L) := Lib.hid (Q2.out.far (by omega) _)
  have B3 : Hid (Below w.heap.size w (w2.setCell ⟨b, 8, none⟩ (.slice A n cap))) := Lib.hid ((keep_set (F := (· = b)) rfl).below (fun k hk => by rw [hk]; exact hbw) B2.out B2.out.size)
  go_upto_region 2 with fail
  obtain ⟨w3, hw3⟩ : ∃ w3, w3 = w2.setCell ⟨b, 8, none⟩ (.slice A n cap) := ⟨_, rfl⟩
  rw [← hw3] at C3 Q3 B3
  rw [← hw3]
  clear hw3 x8 fz8 g1 g2 C2 Q2 B2 nil0 n0c e1
  have F3 := Lib.hid (IN.out.fl.below B3.out)
  have hw3 : w.heap.size ≤ w3.heap.size := B3.out.size
  have PC := Lib.hid (put_cat D IN.out.ok w.heap.size A n cap w3 IN.out.ln (by unfold maxLen; omega) F3.out hw3)
  unfold PutC at PC
  obtain ⟨P, hP⟩ : ∃ P, D.putL = P := ⟨_, rfl⟩
  have POK : Hid P.Ok := Lib.hid (by rw [← hP]; exact Ct.putL_ok D)
  have HP := Lib.hid hP
  rw [hP] at PC
  clear hP
  go_wp2_with (with_reducible refine load_ct rfl _ rfl b D A n cap C3.out rfl ?_)
  refine PC.out.mono ?_
  rintro e w4 ⟨rfl, b4⟩
  have C4 := Lib.hid (C3.out.below b4)
  have Q4 := Lib.hid (Q3.out.below b4)
  have B4 := Lib.hid (bstep B3.out b4)
  clear b4 C3 Q3 B3 F3 PC hw3
  go_wp2_with (with_reducible refine alloc_leaf rfl rfl ?_)
  intro w5 l5 b5 s5
  obtain ⟨p, hp⟩ : ∃ p, p = w4.heap.size := ⟨_, rfl⟩
  rw [← hp] at l5 ⊢
  have P5 := Lib.hid l5
  have C5 := Lib.hid (C4.out.below b5)
  have Q5 := Lib.hid (Q4.out.below b5)
  have B5 := Lib.hid (bstep B4.out b5)
  have hqp : q < p := by have := Q4.out.lt; omega
  clear l5 b5 s5 hp C4 Q4 B4
  go_wp2_with (with_reducible refine store_leaf rfl _ _ rfl p Lf.zero P P5.out POK.out rfl rfl ?_)
  intro w6 l6 k6 s6
  have P6 := Lib.hid l6
  have C6 := Lib.hid (C5.out.keep k6 (by omega))
  have Q6 := Lib.hid (Q5.out.keep k6 (by omega))
  have B6 := Lib.hid (k6.below (fun k hk => by omega) B5.out B5.out.size)
  clear l6 k6 s6 P5 C5 Q5 B5
  cases own
  · go_upto_region 6 with fail
    obtain ⟨M, hM⟩ : ∃ M, M = L := ⟨_, rfl⟩
    rw [← hM] at Q6 LOK
    clear hM
    have GC := Lib.hid (getc_any M LOK.out w6)
    unfold GetC at GC
    have RG := Lib.hid (fun w0 => rgetc_any M LOK.out w0)
    unfold GetC at RG
    have GR := Lib.hid (gotC_right M)
    obtain ⟨G, hG⟩ : ∃ G, gotC M = G := ⟨_, rfl⟩
    obtain ⟨gk, hgk⟩ : ∃ gk, gotK M = gk := ⟨_, rfl⟩
    rw [hG] at GC RG GR
    rw [hgk] at GC RG
    clear hG hgk
    go_wp2_with (with_reducible refine load_leaf rfl _ rfl q M Q6.out rfl ?_)
    refine GC.out.mono ?_
    rintro e w10 ⟨A1, n1, c1, rfl, o1, b10⟩
    have C10 := Lib.hid (C6.out.below b10)
    have Q10 := Lib.hid (Q6.out.below b10)
    have P10 := Lib.hid (P6.out.below b10)
    have B10 := Lib.hid (bstep B6.out b10)
    have O10 := Lib.hid (o1.weak (base' := w.heap.size) (fun a ha => by have := (o1.lt a ha).1; have := B6.out.size; omega))
    clear o1 b10 GC C6 Q6 P6 B6
    go_wp2_with (with_reducible refine alloc_ct rfl rfl ?_)
    intro w11 l11 b11 s11
    obtain ⟨d, hd⟩ : ∃ d, d = w10.heap.size := ⟨_, rfl⟩
    rw [← hd] at l11 ⊢
    have D11 := Lib.hid l11
    have C11 := Lib.hid (C10.out.below b11)
    have Q11 := Lib.hid (Q10.out.below b11)
    have P11 := Lib.hid (P10.out.below b11)
    have O11 := Lib.hid (O10.out.below b11)
    have B11 := Lib.hid (bstep B10.out b11)
    have hpd : p < d := by have := P10.out.lt; omega
    have OD : Hid (∀ a, A1 = some a → a.block < d) := Lib.hid (fun a ha => by have := (O10.out.lt a ha).2; omega)
    clear l11 b11 s11 hd C10 Q10 P10 O10 B10
    go_wp2_with (with_reducible refine store_ct rfl _ _ rfl d Ct.zero G none A1 0 n1 0 c1 D11.out rfl rfl ?_)
    intro w12 l12 k12 s12
    have D12 := Lib.hid l12
    have C12 := Lib.hid (C11.out.keep k12 (by omega))
    have Q12 := Lib.hid (Q11.out.keep k12 (by omega))
    have P12 := Lib.hid (P11.out.keep k12 (by omega))
    have O12 := Lib.hid (O11.out.keep k12 (fun a ha e => by have := OD.out a ha; omega))
    have B12 := Lib.hid (k12.below (fun k hk => by omega) B11.out B11.out.size)
    clear l12 k12 s12 D11 C11 Q11 P11 O11 B11
    go_wp2_with (with_reducible refine load_leaf rfl _ rfl q M Q12.out rfl ?_)
    refine (RG.out _).mono ?_
    rintro e w13 ⟨A2, n2, c2, rfl, o2, b13⟩
    have D13 := Lib.hid (D12.out.below b13)
    have C13 := Lib.hid (C12.out.below b13)
    have P13 := Lib.hid (P12.out.below b13)
    have O13 := Lib.hid (O12.out.below b13)
    have B13 := Lib.hid (bstep B12.out b13)
    have R13 := Lib.hid (o2.weak (base' := w.heap.size) (fun a ha => by have := (o2.lt a ha).1; have := B12.out.size; omega))
    clear o2 b13 RG D12 C12 Q12 P12 O12 B12
    go_wp2_with (with_reducible refine alloc_ct rfl rfl ?_)
    intro w14 l14 b14 s14
    obtain ⟨r, hr⟩ : ∃ r, r = w13.heap.size := ⟨_, rfl⟩
    rw [← hr] at l14 ⊢
    have E14 := Lib.hid l14
    have D14 := Lib.hid (D13.out.below b14)
    have C14 := Lib.hid (C13.out.below b14)
    have P14 := Lib.hid (P13.out.below b14)
    have O14 := Lib.hid (O13.out.below b14)
    have R14 := Lib.hid (R13.out.below b14)
    have B14 := Lib.hid (bstep B13.out b14)
    have hdr : d < r := by have := D13.out.lt; omega
    have OR : Hid (∀ a, A1 = some a → a.block < r) := Lib.hid (fun a ha => by have := (O13.out.lt a ha).2; omega)
    have RR : Hid (∀ a, A2 = some a → a.block < r) := Lib.hid (fun a ha => by have := (R13.out.lt a ha).2; omega)
    clear l14 b14 s14 hr D13 C13 P13 O13 R13 B13
    go_wp2_with (with_reducible refine store_ct rfl _ _ rfl r Ct.zero G none A2 0 n2 0 c2 E14.out rfl rfl ?_)
    intro w15 l15 k15 s15
    have E15 := Lib.hid l15
    have D15 := Lib.hid (D14.out.keep k15 (by omega))
    have C15 := Lib.hid (C14.out.keep k15 (by omega))
    have P15 := Lib.hid (P14.out.keep k15 (by omega))
    have O15 := Lib.hid (O14.out.keep k15 (fun a ha e => by have := OR.out a ha; omega))
    have R15 := Lib.hid (R14.out.keep k15 (fun a ha e => by have := RR.out a ha; omega))
    have B15 := Lib.hid (k15.below (fun k hk => by omega) B14.out B14.out.size)
    clear l15 k15 s15 E14 D14 C14 P14 O14 R14 B14 OD OR RR
    have hL1 := Lib.hid O15.out.2.1
    have hL2 := Lib.hid R15.out.2.1
    have hm14 := GR.out.m
    have hn1 : n1 ≤ 14 := by have := hL1.out; omega
    have hn2 : n2 ≤ 14 := by have := hL2.out; omega
    have hwW : w.heap.size ≤ w15.heap.size := B15.out.size
    have KC : Hid (∀ w', Below w15.heap.size w15 w' → CtAt w' b D A n cap ∧ CtAt w' d G A1 n1 c1 ∧ CtAt w' r G A2 n2 c2 ∧ LfAt w' p P ∧ FlR w' w.heap.size A D.files ∧ FlR w' w15.heap.size A1 G.files ∧ FlR w' w15.heap.size A2 G.files) := Lib.hid (fun w' h => ⟨C15.out.below h, D15.out.below h, E15.out.below h, P15.out.below h, (IN.out.fl.below B15.out).below (h.mono hwW), O15.out.reads.below h, R15.out.reads.below h⟩)
    go_upto_region 8 with fail
    refine wp_region_held_drew (S := fun w' => Below w15.heap.size w15 w') (by kernel_rfl) (Below.refl _ _).drew (fun HS => ?_)
    obtain ⟨cr, hcr⟩ : ∃ cr, D.card.rt = cr := ⟨_, rfl⟩
    obtain ⟨dr, hdr2⟩ : ∃ dr, D.rt = dr := ⟨_, rfl⟩
    have K1 : Hid (∀ w0, Calls Try.prog 14 #[.agg #[.int .i64 D.card.frm, .int .i64 D.card.to_, .int .i64 D.card.budget, .int .i64 D.card.fan]] w0 fun e w' => e = .returned (.bool cr) ∧ Below w0.heap.size w0 w') := Lib.hid (fun w0 => by have := card_any D.card IN.out.ok.k w0; rw [hcr] at this; exact this)
    have K2 : Hid (∀ w0, Calls Try.prog 15 #[.agg #[.int .i64 D.card.frm, .int .i64 D.card.to_, .int .i64 D.card.budget, .int .i64 D.card.fan]] w0 fun e w' => e = .returned (.bool cr) ∧ Below w0.heap.size w0 w') := Lib.hid (fun w0 => by have := rcard_any D.card IN.out.ok.k w0; rw [hcr] at this; exact this)
    have K3 : Hid (∀ w0, Below w15.heap.size w15 w0 → Calls Try.prog 16 #[.agg (ctv D A n cap).toArray] w0 fun e w' => e = .returned (.bool dr) ∧ Below w0.heap.size w0 w') := Lib.hid (fun w0 h => by have := cat_any D IN.out.ok w.heap.size A n cap w0 IN.out.ln (by unfold maxLen; omega) (KC.out w0 h).2.2.2.2.1 (by have := h.size; omega); rw [hdr2] at this; exact this)
    have K4 : Hid (∀ w0, Below w15.heap.size w15 w0 → Calls Try.prog 17 #[.agg (ctv D A n cap).toArray] w0 fun e w' => e = .returned (.bool dr) ∧ Below w0.heap.size w0 w') := Lib.hid (fun w0 h => by have := rcat_any D IN.out.ok w.heap.size A n cap w0 IN.out.ln (by unfold maxLen; omega) (KC.out w0 h).2.2.2.2.1 (by have := h.size; omega); rw [hdr2] at this; exact this)
    have K5 : Hid (∀ w0, Below w15.heap.size w15 w0 → Calls Try.prog 18 #[.agg (ctv D A n cap).toArray] w0 fun e w' => e = .returned (.agg (lv P).toArray) ∧ Below w0.heap.size w0 w') := Lib.hid (fun w0 h => by have := rputc_any D IN.out.ok w.heap.size A n cap w0 IN.out.ln (by unfold maxLen; omega) (KC.out w0 h).2.2.2.2.1 (by have := h.size; omega); unfold PutC at this; rw [HP.out] at this; exact this)
    have K6 : Hid (∀ w0, Below w15.heap.size w15 w0 → Calls Try.prog 11 #[.agg (ctv G A1 n1 c1).toArray, .agg (ctv G A2 n2 c2).toArray] w0 fun e w' => e = .returned (.bool true) ∧ Below w0.heap.size w0 w') := Lib.hid (fun w0 h => by have := cats_any G G (right_ok GR.out) (right_ok GR.out) w15.heap.size A1 A2 n1 n2 c1 c2 w0 (by unfold maxLen; omega) (by unfold maxLen; omega) hL1.out hL2.out (KC.out w0 h).2.2.2.2.2.1 (KC.out w0 h).2.2.2.2.2.2 h.size; rw [decide_eq_true (rfl : G = G)] at this; exact this)
    clear hcr hdr2 hm14 C15 D15 E15 P15 O15 R15 hL1 hL2
    refine takeY (i := 0) (d := 47) (v := ?_) rfl rfl (by kernel_rfl) (by kernel_rfl) (by kernel_rfl) (fun _ _ _ h => h) (by rfl) ?_ HS ?_
    rotate_left
    · intro w' hSw
      skip
      go_simp
      try with_reducible rfl
    simp only [Act.put, List.setIfInBounds_toArray, List.set_cons_zero, List.set_cons_succ]
    refine takeY (i := 1) (d := 48) (v := ?_) rfl rfl (by kernel_rfl) (by kernel_rfl) (by kernel_rfl) (fun _ _ _ h => h) (by rfl) ?_ HS ?_
    rotate_left
    · intro w' hSw
      obtain ⟨_, _, _, _, q4, q5, q6, q7, _⟩ := (KC.out w' hSw).1.cells
      go_simp
      try with_reducible rfl
    simp only [Act.put, List.setIfInBounds_toArray, List.set_cons_zero, List.set_cons_succ]
    refine takeY (i := 3) (d := 50) (v := ?_) rfl rfl (by kernel_rfl) (by kernel_rfl) (by kernel_rfl) (fun _ _ _ h => h) (by rfl) ?_ HS ?_
    rotate_left
    · intro w' hSw
      skip
      go_simp
      try with_reducible rfl
    simp only [Act.put, List.setIfInBounds_toArray, List.set_cons_zero, List.set_cons_succ]
    refine takeY (i := 4) (d := 51) (v := ?_) rfl rfl (by kernel_rfl) (by kernel_rfl) (by kernel_rfl) (fun _ _ _ h => h) (by rfl) ?_ HS ?_
    rotate_left
    · intro w' hSw
      obtain ⟨_, _, _, _, q4, q5, q6, q7, _⟩ := (KC.out w' hSw).1.cells
      go_simp
      try with_reducible rfl
    simp only [Act.put, List.setIfInBounds_toArray, List.set_cons_zero, List.set_cons_succ]
    refine wpAnyH_ready (rs := [2]) (by kernel_rfl) (by simp) ?_
    refine AllReadyH.cons rfl (fun K hK => ?_) AllReadyH.nil
    go_simp
    refine Calls.mono (K1.out _) ?_
    rintro e v1 ⟨rfl, bv⟩
    have HV : Below w15.heap.size w15 v1 := bstep HS bv
    refine hK.out _ _ HV (fun HT1 => ?_)
    clear hK HV bv
    try simp only [Act.put, List.setIfInBounds_toArray, List.set_cons_zero, List.set_cons_succ]
    refine wpAnyH_ready (rs := [5]) (by kernel_rfl) (by simp) ?_
    refine AllReadyH.cons rfl (fun K hK => ?_) AllReadyH.nil
    go_simp
    refine Calls.mono (K2.out _) ?_
    rintro e v2 ⟨rfl, bv⟩
    have HV : Below w15.heap.size w15 v2 := bstep HT1 bv
    refine hK.out _ _ HV (fun HT2 => ?_)
    clear hK HV bv
    try simp only [Act.put, List.setIfInBounds_toArray, List.set_cons_zero, List.set_cons_succ]
    refine takeY (i := 6) (d := 53) (v := ?_) rfl rfl (by kernel_rfl) (by kernel_rfl) (by kernel_rfl) (fun _ _ _ h => h) (by rfl) ?_ HT2 ?_
    rotate_left
    · intro w' hSw
      skip
      go_simp
      try with_reducible rfl
    simp only [Act.put, List.setIfInBounds_toArray, List.set_cons_zero, List.set_cons_succ]
    refine takeY (i := 7) (d := 54) (v := ?_) rfl rfl (by kernel_rfl) (by kernel_rfl) (by kernel_rfl) (fun _ _ _ h => h) (by rfl) ?_ HT2 ?_
    rotate_left
    · intro w' hSw
      skip
      go_simp
      try with_reducible rfl
    simp only [Act.put, List.setIfInBounds_toArray, List.set_cons_zero, List.set_cons_succ]
    refine takeY (i := 8) (d := 55) (v := .agg (ctv D A n cap).toArray) rfl rfl (by kernel_rfl) (by kernel_rfl) (by kernel_rfl) (fun _ _ _ h => h) (by rfl) (fun w' hSw => exec_load_ct rfl (KC.out w' hSw).1 rfl) HT2 ?_
    simp only [Act.put, List.setIfInBounds_toArray, List.set_cons_zero, List.set_cons_succ]
    refine takeY (i := 10) (d := 57) (v := .agg (ctv D A n cap).toArray) rfl rfl (by kernel_rfl) (by kernel_rfl) (by kernel_rfl) (fun _ _ _ h => h) (by rfl) (fun w' hSw => exec_load_ct rfl (KC.out w' hSw).1 rfl) HT2 ?_
    simp only [Act.put, List.setIfInBounds_toArray, List.set_cons_zero, List.set_cons_succ]
    refine wpAnyH_ready (rs := [9]) (by kernel_rfl) (by simp) ?_
    refine AllReadyH.cons rfl (fun K hK => ?_) AllReadyH.nil
    go_simp
    refine Calls.mono (K3.out _ HT2) ?_
    rintro e v3 ⟨rfl, bv⟩
    have HV : Below w15.heap.size w15 v3 := bstep HT2 bv
    refine hK.out _ _ HV (fun HT3 => ?_)
    clear hK HV bv
    try simp only [Act.put, List.setIfInBounds_toArray, List.set_cons_zero, List.set_cons_succ]
    refine wpAnyH_ready (rs := [11]) (by kernel_rfl) (by simp) ?_
    refine AllReadyH.cons rfl (fun K hK => ?_) AllReadyH.nil
    go_simp
    refine Calls.mono (K4.out _ HT3) ?_
    rintro e v4 ⟨rfl, bv⟩
    have HV : Below w15.heap.size w15 v4 := bstep HT3 bv
    refine hK.out _ _ HV (fun HT4 => ?_)
    clear hK HV bv
    try simp only [Act.put, List.setIfInBounds_toArray, List.set_cons_zero, List.set_cons_succ]
    refine takeY (i := 12) (d := 59) (v := ?_) rfl rfl (by kernel_rfl) (by kernel_rfl) (by kernel_rfl) (fun _ _ _ h => h) (by rfl) ?_ HT4 ?_
    rotate_left
    · intro w' hSw
      skip
      go_simp
      try with_reducible rfl
    simp only [Act.put, List.setIfInBounds_toArray, List.set_cons_zero, List.set_cons_succ]
    refine takeY (i := 13) (d := 60) (v := ?_) rfl rfl (by kernel_rfl) (by kernel_rfl) (by kernel_rfl) (fun _ _ _ h => h) (by rfl) ?_ HT4 ?_
    rotate_left
    · intro w' hSw
      skip
      go_simp
      try with_reducible rfl
    simp only [Act.put, List.setIfInBounds_toArray, List.set_cons_zero, List.set_cons_succ]
    refine takeY (i := 14) (d := 61) (v := ?_) rfl rfl (by kernel_rfl) (by kernel_rfl) (by kernel_rfl) (fun _ _ _ h => h) (by rfl) ?_ HT4 ?_
    rotate_left
    · intro w' hSw
      skip
      go_simp
      try with_reducible rfl
    simp only [Act.put, List.setIfInBounds_toArray, List.set_cons_zero, List.set_cons_succ]
    refine takeY (i := 15) (d := 62) (v := .agg (lv P).toArray) rfl rfl (by kernel_rfl) (by kernel_rfl) (by kernel_rfl) (fun _ _ _ h => h) (by rfl) (fun w' hSw => exec_load_lf rfl (KC.out w' hSw).2.2.2.1 rfl) HT4 ?_
    simp only [Act.put, List.setIfInBounds_toArray, List.set_cons_zero, List.set_cons_succ]
    refine takeY (i := 16) (d := 63) (v := .agg (ctv D A n cap).toArray) rfl rfl (by kernel_rfl) (by kernel_rfl) (by kernel_rfl) (fun _ _ _ h => h) (by rfl) (fun w' hSw => exec_load_ct rfl (KC.out w' hSw).1 rfl) HT4 ?_
    simp only [Act.put, List.setIfInBounds_toArray, List.set_cons_zero, List.set_cons_succ]
    refine wpAnyH_ready (rs := [17]) (by kernel_rfl) (by simp) ?_
    refine AllReadyH.cons rfl (fun K hK => ?_) AllReadyH.nil
    go_simp
    refine Calls.mono (K5.out _ HT4) ?_
    rintro e v5 ⟨rfl, bv⟩
    have HV : Below w15.heap.size w15 v5 := bstep HT4 bv
    refine hK.out _ _ HV (fun HT5 => ?_)
    clear hK HV bv
    try simp only [Act.put, List.setIfInBounds_toArray, List.set_cons_zero, List.set_cons_succ]
    refine takeY (i := 18) (d := 65) (v := .bool (decide (P = P))) rfl rfl (by kernel_rfl) (by kernel_rfl) (by kernel_rfl) (fun _ _ _ h => h) (by rfl) (fun w' hSw => exec_eql_lf rfl POK.out POK.out rfl rfl) HT5 ?_
    simp only [Act.put, List.setIfInBounds_toArray, List.set_cons_zero, List.set_cons_succ]
    try rw [decide_eq_true (rfl : P = P)]
    refine takeY (i := 19) (d := 66) (v := ?_) rfl rfl (by kernel_rfl) (by kernel_rfl) (by kernel_rfl) (fun _ _ _ h => h) (by rfl) ?_ HT5 ?_
    rotate_left
    · intro w' hSw
      skip
      go_simp
      try with_reducible rfl
    simp only [Act.put, List.setIfInBounds_toArray, List.set_cons_zero, List.set_cons_succ]
    refine takeY (i := 20) (d := 67) (v := ?_) rfl rfl (by kernel_rfl) (by kernel_rfl) (by kernel_rfl) (fun _ _ _ h => h) (by rfl) ?_ HT5 ?_
    rotate_left
    · intro w' hSw
      skip
      go_simp
      try with_reducible rfl
    simp only [Act.put, List.setIfInBounds_toArray, List.set_cons_zero, List.set_cons_succ]
    refine takeY (i := 21) (d := 68) (v := .agg (ctv G A1 n1 c1).toArray) rfl rfl (by kernel_rfl) (by kernel_rfl) (by kernel_rfl) (fun _ _ _ h => h) (by rfl) (fun w' hSw => exec_load_ct rfl (KC.out w' hSw).2.1 rfl) HT5 ?_
    simp only [Act.put, List.setIfInBounds_toArray, List.set_cons_zero, List.set_cons_succ]
    refine takeY (i := 22) (d := 69) (v := .agg (ctv G A2 n2 c2).toArray) rfl rfl (by kernel_rfl) (by kernel_rfl) (by kernel_rfl) (fun _ _ _ h => h) (by rfl) (fun w' hSw => exec_load_ct rfl (KC.out w' hSw).2.2.1 rfl) HT5 ?_
    simp only [Act.put, List.setIfInBounds_toArray, List.set_cons_zero, List.set_cons_succ]
    refine wpAnyH_ready (rs := [23]) (by kernel_rfl) (by simp) ?_
    refine AllReadyH.cons rfl (fun K hK => ?_) AllReadyH.nil
    go_simp
    refine Calls.mono (K6.out _ HT5) ?_
    rintro e v6 ⟨rfl, bv⟩
    have HV : Below w15.heap.size w15 v6 := bstep HT5 bv
    refine hK.out _ _ HV (fun HT6 => ?_)
    clear hK HV bv
    try simp only [Act.put, List.setIfInBounds_toArray, List.set_cons_zero, List.set_cons_succ]
    refine takeY (i := 24) (d := 71) (v := ?_) rfl rfl (by kernel_rfl) (by kernel_rfl) (by kernel_rfl) (fun _ _ _ h => h) (by rfl) ?_ HT6 ?_
    rotate_left
    · intro w' hSw
      skip
      go_simp
      try with_reducible rfl
    simp only [Act.put, List.setIfInBounds_toArray, List.set_cons_zero, List.set_cons_succ]
    refine takeY (i := 25) (d := 72) (v := ?_) rfl rfl (by kernel_rfl) (by kernel_rfl) (by kernel_rfl) (fun _ _ _ h => h) (by rfl) ?_ HT6 ?_
    rotate_left
    · intro w' hSw
      skip
      go_simp
      try with_reducible rfl
    simp only [Act.put, List.setIfInBounds_toArray, List.set_cons_zero, List.set_cons_succ]
    refine takeY (i := 26) (d := 73) (v := ?_) rfl rfl (by kernel_rfl) (by kernel_rfl) (by kernel_rfl) (fun _ _ _ h => h) (by rfl) ?_ HT6 ?_
    rotate_left
    · intro w' hSw
      skip
      go_simp
      try with_reducible rfl
    simp only [Act.put, List.setIfInBounds_toArray, List.set_cons_zero, List.set_cons_succ]
    refine takeY (i := 27) (d := 74) (v := ?_) rfl rfl (by kernel_rfl) (by kernel_rfl) (by kernel_rfl) (fun _ _ _ h => h) (by rfl) ?_ HT6 ?_
    rotate_left
    · intro w' hSw
      skip
      go_simp
      try with_reducible rfl
    simp only [Act.put, List.setIfInBounds_toArray, List.set_cons_zero, List.set_cons_succ]
    refine takeY (i := 28) (d := 75) (v := ?_) rfl rfl (by kernel_rfl) (by kernel_rfl) (by kernel_rfl) (fun _ _ _ h => h) (by rfl) ?_ HT6 ?_
    rotate_left
    · intro w' hSw
      skip
      go_simp
      try with_reducible rfl
    simp only [Act.put, List.setIfInBounds_toArray, List.set_cons_zero, List.set_cons_succ]
    refine takeY (i := 29) (d := 76) (v := ?_) rfl rfl (by kernel_rfl) (by kernel_rfl) (by kernel_rfl) (fun _ _ _ h => h) (by rfl) ?_ HT6 ?_
    rotate_left
    · intro w' hSw
      skip
      go_simp
      try with_reducible rfl
    simp only [Act.put, List.setIfInBounds_toArray, List.set_cons_zero, List.set_cons_succ]
    refine takeY (i := 30) (d := 77) (v := ?_) rfl rfl (by kernel_rfl) (by kernel_rfl) (by kernel_rfl) (fun _ _ _ h => h) (by rfl) ?_ HT6 ?_
    rotate_left
    · intro w' hSw
      skip
      go_simp
      try with_reducible rfl
    simp only [Act.put, List.setIfInBounds_toArray, List.set_cons_zero, List.set_cons_succ]
    refine wpAnyH_ready (rs := [31]) (by kernel_rfl) (by simp) ?_
    refine AllReadyH.cons rfl (fun K hK => ?_) AllReadyH.nil
    go_simp
    refine Calls.mono (kruns_any _) ?_
    rintro e v7 ⟨rfl, bv⟩
    have HV : Below w15.heap.size w15 v7 := bstep HT6 bv
    refine hK.out _ _ HV (fun HT7 => ?_)
    clear hK HV bv
    try simp only [Act.put, List.setIfInBounds_toArray, List.set_cons_zero, List.set_cons_succ]
    refine takeY (i := 32) (d := 79) (v := ?_) rfl rfl (by kernel_rfl) (by kernel_rfl) (by kernel_rfl) (fun _ _ _ h => h) (by rfl) ?_ HT7 ?_
    rotate_left
    · intro w' hSw
      skip
      go_simp
      try with_reducible rfl
    simp only [Act.put, List.setIfInBounds_toArray, List.set_cons_zero, List.set_cons_succ]
    refine wpAnyH_ready (rs := [33]) (by kernel_rfl) (by simp) ?_
    refine AllReadyH.cons rfl (fun K hK => ?_) AllReadyH.nil
    go_simp
    refine hK.out _ _ HT7 (fun HZ => ?_)
    clear hK
    refine wpAnyH_done (by kernel_rfl) ?_ _
    have BZ := Lib.hid (bstep B15.out HZ)
    go_wp2
    go_ret
    exact ⟨rfl, BZ.out⟩
  · go_wp2_with (first | (with_reducible refine load_leaf rfl _ rfl p P P6.out rfl ?_) | (with_reducible refine store_leaf rfl _ _ rfl q L P Q6.out POK.out rfl rfl ?_))
    intro w7 l7 k7 s7
    have Q7 := Lib.hid l7
    have C7 := Lib.hid (C6.out.keep k7 (by omega))
    have P7 := Lib.hid (P6.out.keep k7 (by omega))
    have B7 := Lib.hid (k7.below (fun k hk => by omega) B6.out B6.out.size)
    clear l7 k7 s7 P6 C6 Q6 B6
    go_wp2_with fail
    refine (within_in at_ 0 115 HAT.out (by decide) (by decide) (by decide) (by decide) w7).mono ?_
    rintro e w' ⟨t, rfl, t0, t1, rfl⟩
    obtain ⟨t, rfl⟩ : ∃ q : Nat, t = q := ⟨t.toNat, by omega⟩
    have cy := Q7.out.byte t (by omega)
    have fz := Q7.out.frozen (5 + t)
    obtain ⟨z, hz⟩ : ∃ z, bits .xor .u8 (P.load.getD t 0) x = z := ⟨_, rfl⟩
    have UZ : Hid (U8 z) := Lib.hid (by rw [← hz, xor_u8]; exact xorB_U8 _ _)
    have i1 : (t : Int) < 116 := by omega
    have i2 : t < 116 := by omega
    obtain ⟨u0, u1⟩ := Q7.out.2.u t (by rw [Q7.out.2.l]; exact i2)
    obtain ⟨x0, x1⟩ := HX.out
    have Q8 : Hid (LfAt (w7.setCell ⟨q, 5 + t, none⟩ (.int .u8 z)) q { P with load := P.load.set t z }) := Lib.hid (Q7.out.store t z UZ.out)
    have C8 : Hid (CtAt (w7.setCell ⟨q, 5 + t, none⟩ (.int .u8 z)) b D A n cap) := Lib.hid (C7.out.keep (keep_set (F := (· = q)) rfl) (by omega))
    have P8 : Hid (LfAt (w7.setCell ⟨q, 5 + t, none⟩ (.int .u8 z)) p P) := Lib.hid (P7.out.far (by omega) _)
    have B8 : Hid (Below w.heap.size w (w7.setCell ⟨q, 5 + t, none⟩ (.int .u8 z))) := Lib.hid ((keep_set (F := (· = q)) rfl).below (fun k hk => by omega) B7.out B7.out.size)
    generalize P.load.getD t 0 = v at *
    go_upto_region 6 with fail
    obtain ⟨w8, hw8⟩ : ∃ w8, w8 = w7.setCell ⟨q, 5 + t, none⟩ (.int .u8 z) := ⟨_, rfl⟩
    rw [← hw8] at Q8 C8 P8 B8
    rw [← hw8]
    clear hw8 Q7 C7 P7 B7 cy fz hz u0 u1 x0 x1
    obtain ⟨M, hM⟩ : ∃ M : Lf, M = { P with load := P.load.set t z } := ⟨_, rfl⟩
    rw [← hM] at Q8
    have LOK := Lib.hid Q8.out.2
    clear hM UZ
    have GC := Lib.hid (getc_any M LOK.out w8)
    unfold GetC at GC
    have RG := Lib.hid (fun w0 => rgetc_any M LOK.out w0)
    unfold GetC at RG
    have GR := Lib.hid (gotC_right M)
    obtain ⟨G, hG⟩ : ∃ G, gotC M = G := ⟨_, rfl⟩
    obtain ⟨gk, hgk⟩ : ∃ gk, gotK M = gk := ⟨_, rfl⟩
    rw [hG] at GC RG GR
    rw [hgk] at GC RG
    clear hG hgk
    go_wp2_with (with_reducible refine load_leaf rfl _ rfl q M Q8.out rfl ?_)
    refine GC.out.mono ?_
    rintro e w10 ⟨A1, n1, c1, rfl, o1, b10⟩
    have C10 := Lib.hid (C8.out.below b10)
    have Q10 := Lib.hid (Q8.out.below b10)
    have P10 := Lib.hid (P8.out.below b10)
    have B10 := Lib.hid (bstep B8.out b10)
    have O10 := Lib.hid (o1.weak (base' := w.heap.size) (fun a ha => by have := (o1.lt a ha).1; have := B8.out.size; omega))
    clear o1 b10 GC C8 Q8 P8 B8
    go_wp2_with (with_reducible refine alloc_ct rfl rfl ?_)
    intro w11 l11 b11 s11
    obtain ⟨d, hd⟩ : ∃ d, d = w10.heap.size := ⟨_, rfl⟩
    rw [← hd] at l11 ⊢
    have D11 := Lib.hid l11
    have C11 := Lib.hid (C10.out.below b11)
    have Q11 := Lib.hid (Q10.out.below b11)
    have P11 := Lib.hid (P10.out.below b11)
    have O11 := Lib.hid (O10.out.below b11)
    have B11 := Lib.hid (bstep B10.out b11)
    have hpd : p < d := by have := P10.out.lt; omega
    have OD : Hid (∀ a, A1 = some a → a.block < d) := Lib.hid (fun a ha => by have := (O10.out.lt a ha).2; omega)
    clear l11 b11 s11 hd C10 Q10 P10 O10 B10
    go_wp2_with (with_reducible refine store_ct rfl _ _ rfl d Ct.zero G none A1 0 n1 0 c1 D11.out rfl rfl ?_)
    intro w12 l12 k12 s12
    have D12 := Lib.hid l12
    have C12 := Lib.hid (C11.out.keep k12 (by omega))
    have Q12 := Lib.hid (Q11.out.keep k12 (by omega))
    have P12 := Lib.hid (P11.out.keep k12 (by omega))
    have O12 := Lib.hid (O11.out.keep k12 (fun a ha e => by have := OD.out a ha; omega))
    have B12 := Lib.hid (k12.below (fun k hk => by omega) B11.out B11.out.size)
    clear l12 k12 s12 D11 C11 Q11 P11 O11 B11
    go_wp2_with (with_reducible refine load_leaf rfl _ rfl q M Q12.out rfl ?_)
    refine (RG.out _).mono ?_
    rintro e w13 ⟨A2, n2, c2, rfl, o2, b13⟩
    have D13 := Lib.hid (D12.out.below b13)
    have C13 := Lib.hid (C12.out.below b13)
    have P13 := Lib.hid (P12.out.below b13)
    have O13 := Lib.hid (O12.out.below b13)
    have B13 := Lib.hid (bstep B12.out b13)
    have R13 := Lib.hid (o2.weak (base' := w.heap.size) (fun a ha => by have := (o2.lt a ha).1; have := B12.out.size; omega))
    clear o2 b13 RG D12 C12 Q12 P12 O12 B12
    go_wp2_with (with_reducible refine alloc_ct rfl rfl ?_)
    intro w14 l14 b14 s14
    obtain ⟨r, hr⟩ : ∃ r, r = w13.heap.size := ⟨_, rfl⟩
    rw [← hr] at l14 ⊢
    have E14 := Lib.hid l14
    have D14 := Lib.hid (D13.out.below b14)
    have C14 := Lib.hid (C13.out.below b14)
    have P14 := Lib.hid (P13.out.below b14)
    have O14 := Lib.hid (O13.out.below b14)
    have R14 := Lib.hid (R13.out.below b14)
    have B14 := Lib.hid (bstep B13.out b14)
    have hdr : d < r := by have := D13.out.lt; omega
    have OR : Hid (∀ a, A1 = some a → a.block < r) := Lib.hid (fun a ha => by have := (O13.out.lt a ha).2; omega)
    have RR : Hid (∀ a, A2 = some a → a.block < r) := Lib.hid (fun a ha => by have := (R13.out.lt a ha).2; omega)
    clear l14 b14 s14 hr D13 C13 P13 O13 R13 B13
    go_wp2_with (with_reducible refine store_ct rfl _ _ rfl r Ct.zero G none A2 0 n2 0 c2 E14.out rfl rfl ?_)
    intro w15 l15 k15 s15
    have E15 := Lib.hid l15
    have D15 := Lib.hid (D14.out.keep k15 (by omega))
    have C15 := Lib.hid (C14.out.keep k15 (by omega))
    have P15 := Lib.hid (P14.out.keep k15 (by omega))
    have O15 := Lib.hid (O14.out.keep k15 (fun a ha e => by have := OR.out a ha; omega))
    have R15 := Lib.hid (R14.out.keep k15 (fun a ha e => by have := RR.out a ha; omega))
    have B15 := Lib.hid (k15.below (fun k hk => by omega) B14.out B14.out.size)
    clear l15 k15 s15 E14 D14 C14 P14 O14 R14 B14 OD OR RR
    have hL1 := Lib.hid O15.out.2.1
    have hL2 := Lib.hid R15.out.2.1
    have hm14 := GR.out.m
    have hn1 : n1 ≤ 14 := by have := hL1.out; omega
    have hn2 : n2 ≤ 14 := by have := hL2.out; omega
    have hwW : w.heap.size ≤ w15.heap.size := B15.out.size
    have KC : Hid (∀ w', Below w15.heap.size w15 w' → CtAt w' b D A n cap ∧ CtAt w' d G A1 n1 c1 ∧ CtAt w' r G A2 n2 c2 ∧ LfAt w' p P ∧ FlR w' w.heap.size A D.files ∧ FlR w' w15.heap.size A1 G.files ∧ FlR w' w15.heap.size A2 G.files) := Lib.hid (fun w' h => ⟨C15.out.below h, D15.out.below h, E15.out.below h, P15.out.below h, (IN.out.fl.below B15.out).below (h.mono hwW), O15.out.reads.below h, R15.out.reads.below h⟩)
    go_upto_region 8 with fail
    refine wp_region_held_drew (S := fun w' => Below w15.heap.size w15 w') (by kernel_rfl) (Below.refl _ _).drew (fun HS => ?_)
    obtain ⟨cr, hcr⟩ : ∃ cr, D.card.rt = cr := ⟨_, rfl⟩
    obtain ⟨dr, hdr2⟩ : ∃ dr, D.rt = dr := ⟨_, rfl⟩
    have K1 : Hid (∀ w0, Calls Try.prog 14 #[.agg #[.int .i64 D.card.frm, .int .i64 D.card.to_, .int .i64 D.card.budget, .int .i64 D.card.fan]] w0 fun e w' => e = .returned (.bool cr) ∧ Below w0.heap.size w0 w') := Lib.hid (fun w0 => by have := card_any D.card IN.out.ok.k w0; rw [hcr] at this; exact this)
    have K2 : Hid (∀ w0, Calls Try.prog 15 #[.agg #[.int .i64 D.card.frm, .int .i64 D.card.to_, .int .i64 D.card.budget, .int .i64 D.card.fan]] w0 fun e w' => e = .returned (.bool cr) ∧ Below w0.heap.size w0 w') := Lib.hid (fun w0 => by have := rcard_any D.card IN.out.ok.k w0; rw [hcr] at this; exact this)
    have K3 : Hid (∀ w0, Below w15.heap.size w15 w0 → Calls Try.prog 16 #[.agg (ctv D A n cap).toArray] w0 fun e w' => e = .returned (.bool dr) ∧ Below w0.heap.size w0 w') := Lib.hid (fun w0 h => by have := cat_any D IN.out.ok w.heap.size A n cap w0 IN.out.ln (by unfold maxLen; omega) (KC.out w0 h).2.2.2.2.1 (by have := h.size; omega); rw [hdr2] at this; exact this)
    have K4 : Hid (∀ w0, Below w15.heap.size w15 w0 → Calls Try.prog 17 #[.agg (ctv D A n cap).toArray] w0 fun e w' => e = .returned (.bool dr) ∧ Below w0.heap.size w0 w') := Lib.hid (fun w0 h => by have := rcat_any D IN.out.ok w.heap.size A n cap w0 IN.out.ln (by unfold maxLen; omega) (KC.out w0 h).2.2.2.2.1 (by have := h.size; omega); rw [hdr2] at this; exact this)
    have K5 : Hid (∀ w0, Below w15.heap.size w15 w0 → Calls Try.prog 18 #[.agg (ctv D A n cap).toArray] w0 fun e w' => e = .returned (.agg (lv P).toArray) ∧ Below w0.heap.size w0 w') := Lib.hid (fun w0 h => by have := rputc_any D IN.out.ok w.heap.size A n cap w0 IN.out.ln (by unfold maxLen; omega) (KC.out w0 h).2.2.2.2.1 (by have := h.size; omega); unfold PutC at this; rw [HP.out] at this; exact this)
    have K6 : Hid (∀ w0, Below w15.heap.size w15 w0 → Calls Try.prog 11 #[.agg (ctv G A1 n1 c1).toArray, .agg (ctv G A2 n2 c2).toArray] w0 fun e w' => e = .returned (.bool true) ∧ Below w0.heap.size w0 w') := Lib.hid (fun w0 h => by have := cats_any G G (right_ok GR.out) (right_ok GR.out) w15.heap.size A1 A2 n1 n2 c1 c2 w0 (by unfold maxLen; omega) (by unfold maxLen; omega) hL1.out hL2.out (KC.out w0 h).2.2.2.2.2.1 (KC.out w0 h).2.2.2.2.2.2 h.size; rw [decide_eq_true (rfl : G = G)] at this; exact this)
    clear hcr hdr2 hm14 C15 D15 E15 P15 O15 R15 hL1 hL2
    refine takeY (i := 0) (d := 47) (v := ?_) rfl rfl (by kernel_rfl) (by kernel_rfl) (by kernel_rfl) (fun _ _ _ h => h) (by rfl) ?_ HS ?_
    rotate_left
    · intro w' hSw
      skip
      go_simp
      try with_reducible rfl
    simp only [Act.put, List.setIfInBounds_toArray, List.set_cons_zero, List.set_cons_succ]
    refine takeY (i := 1) (d := 48) (v := ?_) rfl rfl (by kernel_rfl) (by kernel_rfl) (by kernel_rfl) (fun _ _ _ h => h) (by rfl) ?_ HS ?_
    rotate_left
    · intro w' hSw
      obtain ⟨_, _, _, _, q4, q5, q6, q7, _⟩ := (KC.out w' hSw).1.cells
      go_simp
      try with_reducible rfl
    simp only [Act.put, List.setIfInBounds_toArray, List.set_cons_zero, List.set_cons_succ]
    refine takeY (i := 3) (d := 50) (v := ?_) rfl rfl (by kernel_rfl) (by kernel_rfl) (by kernel_rfl) (fun _ _ _ h => h) (by rfl) ?_ HS ?_
    rotate_left
    · intro w' hSw
      skip
      go_simp
      try with_reducible rfl
    simp only [Act.put, List.setIfInBounds_toArray, List.set_cons_zero, List.set_cons_succ]
    refine takeY (i := 4) (d := 51) (v := ?_) rfl rfl (by kernel_rfl) (by kernel_rfl) (by kernel_rfl) (fun _ _ _ h => h) (by rfl) ?_ HS ?_
    rotate_left
    · intro w' hSw
      obtain ⟨_, _, _, _, q4, q5, q6, q7, _⟩ := (KC.out w' hSw).1.cells
      go_simp
      try with_reducible rfl
    simp only [Act.put, List.setIfInBounds_toArray, List.set_cons_zero, List.set_cons_succ]
    refine wpAnyH_ready (rs := [2]) (by kernel_rfl) (by simp) ?_
    refine AllReadyH.cons rfl (fun K hK => ?_) AllReadyH.nil
    go_simp
    refine Calls.mono (K1.out _) ?_
    rintro e v1 ⟨rfl, bv⟩
    have HV : Below w15.heap.size w15 v1 := bstep HS bv
    refine hK.out _ _ HV (fun HT1 => ?_)
    clear hK HV bv
    try simp only [Act.put, List.setIfInBounds_toArray, List.set_cons_zero, List.set_cons_succ]
    refine wpAnyH_ready (rs := [5]) (by kernel_rfl) (by simp) ?_
    refine AllReadyH.cons rfl (fun K hK => ?_) AllReadyH.nil
    go_simp
    refine Calls.mono (K2.out _) ?_
    rintro e v2 ⟨rfl, bv⟩
    have HV : Below w15.heap.size w15 v2 := bstep HT1 bv
    refine hK.out _ _ HV (fun HT2 => ?_)
    clear hK HV bv
    try simp only [Act.put, List.setIfInBounds_toArray, List.set_cons_zero, List.set_cons_succ]
    refine takeY (i := 6) (d := 53) (v := ?_) rfl rfl (by kernel_rfl) (by kernel_rfl) (by kernel_rfl) (fun _ _ _ h => h) (by rfl) ?_ HT2 ?_
    rotate_left
    · intro w' hSw
      skip
      go_simp
      try with_reducible rfl
    simp only [Act.put, List.setIfInBounds_toArray, List.set_cons_zero, List.set_cons_succ]
    refine takeY (i := 7) (d := 54) (v := ?_) rfl rfl (by kernel_rfl) (by kernel_rfl) (by kernel_rfl) (fun _ _ _ h => h) (by rfl) ?_ HT2 ?_
    rotate_left
    · intro w' hSw
      skip
      go_simp
      try with_reducible rfl
    simp only [Act.put, List.setIfInBounds_toArray, List.set_cons_zero, List.set_cons_succ]
    refine takeY (i := 8) (d := 55) (v := .agg (ctv D A n cap).toArray) rfl rfl (by kernel_rfl) (by kernel_rfl) (by kernel_rfl) (fun _ _ _ h => h) (by rfl) (fun w' hSw => exec_load_ct rfl (KC.out w' hSw).1 rfl) HT2 ?_
    simp only [Act.put, List.setIfInBounds_toArray, List.set_cons_zero, List.set_cons_succ]
    refine takeY (i := 10) (d := 57) (v := .agg (ctv D A n cap).toArray) rfl rfl (by kernel_rfl) (by kernel_rfl) (by kernel_rfl) (fun _ _ _ h => h) (by rfl) (fun w' hSw => exec_load_ct rfl (KC.out w' hSw).1 rfl) HT2 ?_
    simp only [Act.put, List.setIfInBounds_toArray, List.set_cons_zero, List.set_cons_succ]
    refine wpAnyH_ready (rs := [9]) (by kernel_rfl) (by simp) ?_
    refine AllReadyH.cons rfl (fun K hK => ?_) AllReadyH.nil
    go_simp
    refine Calls.mono (K3.out _ HT2) ?_
    rintro e v3 ⟨rfl, bv⟩
    have HV : Below w15.heap.size w15 v3 := bstep HT2 bv
    refine hK.out _ _ HV (fun HT3 => ?_)
    clear hK HV bv
    try simp only [Act.put, List.setIfInBounds_toArray, List.set_cons_zero, List.set_cons_succ]
    refine wpAnyH_ready (rs := [11]) (by kernel_rfl) (by simp) ?_
    refine AllReadyH.cons rfl (fun K hK => ?_) AllReadyH.nil
    go_simp
    refine Calls.mono (K4.out _ HT3) ?_
    rintro e v4 ⟨rfl, bv⟩
    have HV : Below w15.heap.size w15 v4 := bstep HT3 bv
    refine hK.out _ _ HV (fun HT4 => ?_)
    clear hK HV bv
    try simp only [Act.put, List.setIfInBounds_toArray, List.set_cons_zero, List.set_cons_succ]
    refine takeY (i := 12) (d := 59) (v := ?_) rfl rfl (by kernel_rfl) (by kernel_rfl) (by kernel_rfl) (fun _ _ _ h => h) (by rfl) ?_ HT4 ?_
    rotate_left
    · intro w' hSw
      skip
      go_simp
      try with_reducible rfl
    simp only [Act.put, List.setIfInBounds_toArray, List.set_cons_zero, List.set_cons_succ]
    refine takeY (i := 13) (d := 60) (v := ?_) rfl rfl (by kernel_rfl) (by kernel_rfl) (by kernel_rfl) (fun _ _ _ h => h) (by rfl) ?_ HT4 ?_
    rotate_left
    · intro w' hSw
      skip
      go_simp
      try with_reducible rfl
    simp only [Act.put, List.setIfInBounds_toArray, List.set_cons_zero, List.set_cons_succ]
    refine takeY (i := 14) (d := 61) (v := ?_) rfl rfl (by kernel_rfl) (by kernel_rfl) (by kernel_rfl) (fun _ _ _ h => h) (by rfl) ?_ HT4 ?_
    rotate_left
    · intro w' hSw
      skip
      go_simp
      try with_reducible rfl
    simp only [Act.put, List.setIfInBounds_toArray, List.set_cons_zero, List.set_cons_succ]
    refine takeY (i := 15) (d := 62) (v := .agg (lv P).toArray) rfl rfl (by kernel_rfl) (by kernel_rfl) (by kernel_rfl) (fun _ _ _ h => h) (by rfl) (fun w' hSw => exec_load_lf rfl (KC.out w' hSw).2.2.2.1 rfl) HT4 ?_
    simp only [Act.put, List.setIfInBounds_toArray, List.set_cons_zero, List.set_cons_succ]
    refine takeY (i := 16) (d := 63) (v := .agg (ctv D A n cap).toArray) rfl rfl (by kernel_rfl) (by kernel_rfl) (by kernel_rfl) (fun _ _ _ h => h) (by rfl) (fun w' hSw => exec_load_ct rfl (KC.out w' hSw).1 rfl) HT4 ?_
    simp only [Act.put, List.setIfInBounds_toArray, List.set_cons_zero, List.set_cons_succ]
    refine wpAnyH_ready (rs := [17]) (by kernel_rfl) (by simp) ?_
    refine AllReadyH.cons rfl (fun K hK => ?_) AllReadyH.nil
    go_simp
    refine Calls.mono (K5.out _ HT4) ?_
    rintro e v5 ⟨rfl, bv⟩
    have HV : Below w15.heap.size w15 v5 := bstep HT4 bv
    refine hK.out _ _ HV (fun HT5 => ?_)
    clear hK HV bv
    try simp only [Act.put, List.setIfInBounds_toArray, List.set_cons_zero, List.set_cons_succ]
    refine takeY (i := 18) (d := 65) (v := .bool (decide (P = P))) rfl rfl (by kernel_rfl) (by kernel_rfl) (by kernel_rfl) (fun _ _ _ h => h) (by rfl) (fun w' hSw => exec_eql_lf rfl POK.out POK.out rfl rfl) HT5 ?_
    simp only [Act.put, List.setIfInBounds_toArray, List.set_cons_zero, List.set_cons_succ]
    try rw [decide_eq_true (rfl : P = P)]
    refine takeY (i := 19) (d := 66) (v := ?_) rfl rfl (by kernel_rfl) (by kernel_rfl) (by kernel_rfl) (fun _ _ _ h => h) (by rfl) ?_ HT5 ?_
    rotate_left
    · intro w' hSw
      skip
      go_simp
      try with_reducible rfl
    simp only [Act.put, List.setIfInBounds_toArray, List.set_cons_zero, List.set_cons_succ]
    refine takeY (i := 20) (d := 67) (v := ?_) rfl rfl (by kernel_rfl) (by kernel_rfl) (by kernel_rfl) (fun _ _ _ h => h) (by rfl) ?_ HT5 ?_
    rotate_left
    · intro w' hSw
      skip
      go_simp
      try with_reducible rfl
    simp only [Act.put, List.setIfInBounds_toArray, List.set_cons_zero, List.set_cons_succ]
    refine takeY (i := 21) (d := 68) (v := .agg (ctv G A1 n1 c1).toArray) rfl rfl (by kernel_rfl) (by kernel_rfl) (by kernel_rfl) (fun _ _ _ h => h) (by rfl) (fun w' hSw => exec_load_ct rfl (KC.out w' hSw).2.1 rfl) HT5 ?_
    simp only [Act.put, List.setIfInBounds_toArray, List.set_cons_zero, List.set_cons_succ]
    refine takeY (i := 22) (d := 69) (v := .agg (ctv G A2 n2 c2).toArray) rfl rfl (by kernel_rfl) (by kernel_rfl) (by kernel_rfl) (fun _ _ _ h => h) (by rfl) (fun w' hSw => exec_load_ct rfl (KC.out w' hSw).2.2.1 rfl) HT5 ?_
    simp only [Act.put, List.setIfInBounds_toArray, List.set_cons_zero, List.set_cons_succ]
    refine wpAnyH_ready (rs := [23]) (by kernel_rfl) (by simp) ?_
    refine AllReadyH.cons rfl (fun K hK => ?_) AllReadyH.nil
    go_simp
    refine Calls.mono (K6.out _ HT5) ?_
    rintro e v6 ⟨rfl, bv⟩
    have HV : Below w15.heap.size w15 v6 := bstep HT5 bv
    refine hK.out _ _ HV (fun HT6 => ?_)
    clear hK HV bv
    try simp only [Act.put, List.setIfInBounds_toArray, List.set_cons_zero, List.set_cons_succ]
    refine takeY (i := 24) (d := 71) (v := ?_) rfl rfl (by kernel_rfl) (by kernel_rfl) (by kernel_rfl) (fun _ _ _ h => h) (by rfl) ?_ HT6 ?_
    rotate_left
    · intro w' hSw
      skip
      go_simp
      try with_reducible rfl
    simp only [Act.put, List.setIfInBounds_toArray, List.set_cons_zero, List.set_cons_succ]
    refine takeY (i := 25) (d := 72) (v := ?_) rfl rfl (by kernel_rfl) (by kernel_rfl) (by kernel_rfl) (fun _ _ _ h => h) (by rfl) ?_ HT6 ?_
    rotate_left
    · intro w' hSw
      skip
      go_simp
      try with_reducible rfl
    simp only [Act.put, List.setIfInBounds_toArray, List.set_cons_zero, List.set_cons_succ]
    refine takeY (i := 26) (d := 73) (v := ?_) rfl rfl (by kernel_rfl) (by kernel_rfl) (by kernel_rfl) (fun _ _ _ h => h) (by rfl) ?_ HT6 ?_
    rotate_left
    · intro w' hSw
      skip
      go_simp
      try with_reducible rfl
    simp only [Act.put, List.setIfInBounds_toArray, List.set_cons_zero, List.set_cons_succ]
    refine takeY (i := 27) (d := 74) (v := ?_) rfl rfl (by kernel_rfl) (by kernel_rfl) (by kernel_rfl) (fun _ _ _ h => h) (by rfl) ?_ HT6 ?_
    rotate_left
    · intro w' hSw
      skip
      go_simp
      try with_reducible rfl
    simp only [Act.put, List.setIfInBounds_toArray, List.set_cons_zero, List.set_cons_succ]
    refine takeY (i := 28) (d := 75) (v := ?_) rfl rfl (by kernel_rfl) (by kernel_rfl) (by kernel_rfl) (fun _ _ _ h => h) (by rfl) ?_ HT6 ?_
    rotate_left
    · intro w' hSw
      skip
      go_simp
      try with_reducible rfl
    simp only [Act.put, List.setIfInBounds_toArray, List.set_cons_zero, List.set_cons_succ]
    refine takeY (i := 29) (d := 76) (v := ?_) rfl rfl (by kernel_rfl) (by kernel_rfl) (by kernel_rfl) (fun _ _ _ h => h) (by rfl) ?_ HT6 ?_
    rotate_left
    · intro w' hSw
      skip
      go_simp
      try with_reducible rfl
    simp only [Act.put, List.setIfInBounds_toArray, List.set_cons_zero, List.set_cons_succ]
    refine takeY (i := 30) (d := 77) (v := ?_) rfl rfl (by kernel_rfl) (by kernel_rfl) (by kernel_rfl) (fun _ _ _ h => h) (by rfl) ?_ HT6 ?_
    rotate_left
    · intro w' hSw
      skip
      go_simp
      try with_reducible rfl
    simp only [Act.put, List.setIfInBounds_toArray, List.set_cons_zero, List.set_cons_succ]
    refine wpAnyH_ready (rs := [31]) (by kernel_rfl) (by simp) ?_
    refine AllReadyH.cons rfl (fun K hK => ?_) AllReadyH.nil
    go_simp
    refine Calls.mono (kruns_any _) ?_
    rintro e v7 ⟨rfl, bv⟩
    have HV : Below w15.heap.size w15 v7 := bstep HT6 bv
    refine hK.out _ _ HV (fun HT7 => ?_)
    clear hK HV bv
    try simp only [Act.put, List.setIfInBounds_toArray, List.set_cons_zero, List.set_cons_succ]
    refine takeY (i := 32) (d := 79) (v := ?_) rfl rfl (by kernel_rfl) (by kernel_rfl) (by kernel_rfl) (fun _ _ _ h => h) (by rfl) ?_ HT7 ?_
    rotate_left
    · intro w' hSw
      skip
      go_simp
      try with_reducible rfl
    simp only [Act.put, List.setIfInBounds_toArray, List.set_cons_zero, List.set_cons_succ]
    refine wpAnyH_ready (rs := [33]) (by kernel_rfl) (by simp) ?_
    refine AllReadyH.cons rfl (fun K hK => ?_) AllReadyH.nil
    go_simp
    refine hK.out _ _ HT7 (fun HZ => ?_)
    clear hK
    refine wpAnyH_done (by kernel_rfl) ?_ _
    have BZ := Lib.hid (bstep B15.out HZ)
    go_wp2
    go_ret
    exact ⟨rfl, BZ.out⟩
end Go.Proofs.Ytjiigbmfbmkhjaa
