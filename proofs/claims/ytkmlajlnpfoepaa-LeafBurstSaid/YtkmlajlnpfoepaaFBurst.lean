/-
  The walk of the statement LeafBurst: for every two leaves, every place and every word the call returns true; nothing that was in memory turns.
-/
import Derived.Test.YtkmlajlnpfoepaaFRuns
import Derived.Test.YtkmlajlnpfoepaaBSmE
import Derived.Test.YtkmlajlnpfoepaaTurnM
import Derived.Test.YtkmlajlnpfoepaaBWithinI
namespace Go.Proofs.Ytkmlajlnpfoepaa
set_option linter.unusedVariables false
set_option linter.unusedSimpArgs false
open Go.RowKit

/-- A new leaf's variable takes a leaf: all that lay there stays. -/
theorem below_fresh {w w1 w2 : World} {m : Nat} (hm : m = w.heap.size) (b : Below w.heap.size w w1) (k : Keep (· = m) w1 w2) : Below w.heap.size w w2 :=
  k.below (fun q hq => by omega) b b.size
/-- What Put answers, of any leaf: its bytes, or none. -/
def PutA (L : Lf) (w : World) (e : Ending) (w' : World) : Prop :=
  ∃ A n c, e = .returned (.slice A n c) ∧ ((L.rt = true ∧ n = 128 ∧ ∃ g, A = some ⟨g, 0, none⟩ ∧ Own w' w.heap.size g c L.put) ∨ (L.rt = false ∧ A = none ∧ n = 0 ∧ c = 0)) ∧ Below w.heap.size w w'
theorem put_all (L : Lf) (h : L.Ok) (w : World) : Calls Try.prog 7 #[.agg (lv L).toArray] w (PutA L w) := by
  cases ht : L.rt
  · exact (put_no L h ht w).mono fun e w' ⟨he, hb⟩ => ⟨none, 0, 0, he, Or.inr ⟨ht, rfl, rfl, rfl⟩, hb⟩
  · exact (put_yes L h ht w).mono fun e w' ⟨g, c, he, ho, hb⟩ => ⟨some ⟨g, 0, none⟩, 128, c, he, Or.inl ⟨ht, rfl, g, rfl, ho⟩, hb⟩
/-- So many bits turned. -/
def BurstI (w : World) (base g c p : Nat) (zs : List Int) (X : B32) (k : Nat) (wr : World) : Prop :=
  ∃ ys : List Int, Own wr base g c ys ∧ ys.length = 128 ∧ feeds ones ys = feeds ones zs ^^^ csteps (8 * 128 - p) (some1 X k) ∧ (X = 0#32 → ys = zs) ∧ Below w.heap.size w wr
theorem wrd_ne {X : B32} (h : ¬ X = 0#32) : (wrd X == 0) = false := by
  rw [beq_eq_false_iff_ne]
  intro e
  exact h (u32_inj (e.trans (by decide)))
/-- Bytes that are no block. -/
theorem get_nil (N : Nat) (A : Option Addr) (n c : Nat) (ys : List Int) (hl : ys.length = n) (hm : n ≤ 1000) (w : World) (hr : RdB w N A ys) (hN : N ≤ w.heap.size) (hx : n ≤ c) (hg : getLf ys = none) :
    Calls Try.prog 8 #[.slice A n c] w fun e w' => e = .returned (.tuple #[.agg (lv Lf.zero).toArray, .bool false]) ∧ Below w.heap.size w w' :=
  (get_any N A n c ys hl hm w hr hN hx).mono fun e w' ⟨he, hb⟩ => by
    obtain ⟨e1, e2⟩ := got_none hg
    rw [e1, e2] at he
    exact ⟨he, hb⟩
attribute [local go_sem ↓] loadLf_eq eqlLf_eq neqLf_eq zeroLf_eq zeroLf_eq'
set_option maxRecDepth 100000 in
set_option maxHeartbeats 8000000 in
theorem lburst_any (L M : Lf) (hL : L.Ok) (hM : M.Ok) (at_ : Int) (X : B32) (w : World) (hat : I64 at_) :
    Calls Try.prog 5 #[.agg (lv L).toArray, .agg (lv M).toArray, .int .i64 at_, .int .u32 (wrd X)] w fun e w' => e = .returned (.bool true) ∧ Below w.heap.size w w' := by
  have OK := Lib.hid hL; have OM := Lib.hid hM; have HAT := Lib.hid hat
  obtain ⟨x0, x1⟩ := u32_bd X
  clear hL hM hat
  go_enter Try.func5, Try.ntmps5
  go_wp2_with (with_reducible refine box_leaf rfl _ rfl L OK.out rfl ?_)
  intro w0 l0 b0 s0
  obtain ⟨b, hb⟩ : ∃ b, b = w.heap.size := ⟨_, rfl⟩
  rw [← hb] at l0 ⊢
  have L0 := Lib.hid l0; have B0 := Lib.hid b0
  clear hb b0 s0 l0
  go_wp2_with (with_reducible refine box_leaf rfl _ rfl M OM.out rfl ?_)
  intro w1 l1 b1 s1
  obtain ⟨d, hd⟩ : ∃ d, d = w0.heap.size := ⟨_, rfl⟩
  rw [← hd] at l1 ⊢
  have L1 := Lib.hid (L0.out.below b1)
  have M1 := Lib.hid l1
  have B1 := Lib.hid (bstep B0.out b1)
  clear hd b1 s1 l1 L0 B0
  have KS : Hid (∀ w', Below w1.heap.size w1 w' → (loadLf (.pointer (some ⟨b, 0, none⟩))).run Try.prog w' = .ok (.agg (lv L).toArray) w' ∧ (loadLf (.pointer (some ⟨d, 0, none⟩))).run Try.prog w' = .ok (.agg (lv M).toArray) w') := Lib.hid (fun w' hb => ⟨loadLf_run (L1.out.below hb), loadLf_run (M1.out.below hb)⟩)
  go_wp2_with fail
  go_region_held_law (fun w' => (loadLf (.pointer (some ⟨b, 0, none⟩))).run Try.prog w' = .ok (.agg (lv L).toArray) w' ∧ (loadLf (.pointer (some ⟨d, 0, none⟩))).run Try.prog w' = .ok (.agg (lv M).toArray) w') ((refine KS.out _ ?_; first | exact BB.out | exact BA.out | exact (Below.refl _ _).drew | exact Below.refl _ _))
    (first
      | (go_at_call 7; (with_reducible refine (put_all M OM.out wa).mono ?_); rintro e wb ⟨Aq, nq, cq, rfl, PQ, bb⟩; have HQ := Lib.hid PQ; have KB := Lib.hid bb; have BB : Hid (Below w1.heap.size w1 wb) := Lib.hid (bstep BA.out bb); clear bb PQ)
      | (go_at_call 7; (with_reducible refine (put_all L OK.out _).mono ?_); rintro e wa ⟨Ap, np, cp, rfl, PP, ba⟩; have HP := Lib.hid PP; have BA : Hid (Below w1.heap.size w1 wa) := Lib.hid ((Below.refl _ _).drew.trans ba); clear ba PP))
  have L2 := Lib.hid (L1.out.below BB.out)
  have M2 := Lib.hid (M1.out.below BB.out)
  have B2 := Lib.hid (bstep B1.out BB.out)
  have sz : w1.heap.size ≤ wa.heap.size := BA.out.size
  have SW1 : Hid (w.heap.size ≤ w1.heap.size) := Lib.hid B1.out.size
  clear KS L1 M1 B1
  rcases HP.out with ⟨tp, rfl, gp, rfl, op⟩ | ⟨tp, rfl, rfl, rfl⟩
  · rcases HQ.out with ⟨tq, rfl, gq, rfl, oq⟩ | ⟨tq, rfl, rfl, rfl⟩
    · have P2 : Hid (Own wb w1.heap.size gp cp L.put) := Lib.hid (by have := op.below KB.out; simpa using this)
      have Q2 := Lib.hid oq
      have RL := Lib.hid ((Lf.rt_iff OK.out).1 tp)
      have RM := Lib.hid ((Lf.rt_iff OM.out).1 tq)
      clear tp tq op oq HP HQ
      go_wp2_with fail
      refine (get_put OK.out RL.out _ gp cp wb P2.out).mono ?_
      rintro e v1 ⟨rfl, b1⟩
      have P3 := Lib.hid (P2.out.below b1)
      have Q3 := Lib.hid (Q2.out.below b1)
      have L3 := Lib.hid (L2.out.below b1)
      have M3 := Lib.hid (M2.out.below b1)
      have B3 := Lib.hid (bstep B2.out b1)
      clear b1 P2 Q2 L2 M2 B2
      go_wp2_with (with_reducible refine alloc_leaf rfl rfl ?_)
      intro v2 l2 b2 s2
      obtain ⟨y, hy⟩ : ∃ y, y = v1.heap.size := ⟨_, rfl⟩
      rw [← hy] at l2 ⊢
      have Y2 := Lib.hid l2; have B2 := Lib.hid b2; have HY := Lib.hid hy
      clear hy l2 b2 s2
      go_wp2_with (with_reducible refine store_leaf rfl _ _ rfl y Lf.zero L Y2.out OK.out rfl rfl ?_)
      intro v3 l3 k3 s3
      have b3 := below_fresh HY.out B2.out k3
      have Y4 := Lib.hid l3
      have P4 := Lib.hid (P3.out.below b3)
      have Q4 := Lib.hid (Q3.out.below b3)
      have L4 := Lib.hid (L3.out.below b3)
      have M4 := Lib.hid (M3.out.below b3)
      have B4 := Lib.hid (bstep B3.out b3)
      clear b3 l3 k3 s3 Y2 B2 HY P3 Q3 L3 M3 B3
      have PL : Hid (L.put.length = 128) := Lib.hid (Lf.put_len OK.out)
      have c1 : 128 ≤ cp := by have := P4.out.cap.1; rw [PL.out] at this; exact this
      have c2 : ¬ cp = 1 := by omega
      have c3 : (1 : Int) ≤ (cp : Int) := by omega
      have GN := Lib.hid (get_nil v3.heap.size (some ⟨gp, 1, none⟩) 127 (cp - 1) (L.put.drop 1) (by rw [List.length_drop, PL.out]) (by decide) v3 (by have := P4.out.reads.drop 1; rw [Nat.zero_add] at this; exact this) (Nat.le_refl _) (by omega) (getLf_len (by rw [List.length_drop, PL.out]; decide)))
      go_wp2_with fail
      refine GN.out.mono ?_
      rintro e v4 ⟨rfl, b4⟩
      have Y5 := Lib.hid (Y4.out.below b4)
      have P5 := Lib.hid (P4.out.below b4)
      have Q5 := Lib.hid (Q4.out.below b4)
      have L5 := Lib.hid (L4.out.below b4)
      have M5 := Lib.hid (M4.out.below b4)
      have B5 := Lib.hid (bstep B4.out b4)
      clear b4 GN Y4 P4 Q4 L4 M4 B4 c2 c3
      go_wp2_with (with_reducible refine alloc_leaf rfl rfl ?_)
      intro v5 l5 b5 s5
      obtain ⟨y2, hy⟩ : ∃ y, y = v4.heap.size := ⟨_, rfl⟩
      rw [← hy] at l5 ⊢
      have Z5 := Lib.hid l5; have BZ := Lib.hid b5; have HY := Lib.hid hy
      clear hy l5 b5 s5
      go_wp2_with (with_reducible refine store_leaf rfl _ _ rfl y2 Lf.zero Lf.zero Z5.out Lf.zero_ok rfl rfl ?_)
      intro v6 l6 k6 s6
      have b6 := below_fresh HY.out BZ.out k6
      have Y6 := Lib.hid (Y5.out.below b6)
      have P6 := Lib.hid (P5.out.below b6)
      have Q6 := Lib.hid (Q5.out.below b6)
      have L6 := Lib.hid (L5.out.below b6)
      have M6 := Lib.hid (M5.out.below b6)
      have B6 := Lib.hid (bstep B5.out b6)
      clear b6 l6 k6 s6 Z5 BZ HY Y5 P5 Q5 L5 M5 B5
      go_wp2_with (at_builtin; go_loud (refine app_rd _ rfl _ _ rfl v6.heap.size v6.heap.size 0 0 [] rfl rfl (Own.empty v6 _ (Nat.le_refl _)) v6.heap.size (some ⟨gp, 0, none⟩) 128 cp L.put PL.out rfl ?c2 (fun h => by cases h) ?c3 ?c4 ?_))
      case c2 => exact P6.out.reads.below ((Below.refl _ _).alloc (Nat.le_refl _) _)
      case c3 => decide
      case c4 => simp
      intro g7 c7 v7 o7 hgr
      have b7 : Below v6.heap.size v6 v7 := below_grown ((Below.refl _ _).alloc (Nat.le_refl _) _) hgr (Nat.le_refl _)
      have O7 := Lib.hid o7; have B7 := Lib.hid b7
      clear o7 hgr b7
      have UX : Hid (∀ q, q < ([0] : List Int).length → U8 (([0] : List Int).getD q 0)) := Lib.hid (fun q hq => by
        obtain rfl : q = 0 := by simp at hq; omega
        exact ⟨by decide, by decide⟩)
      go_wp2_with (at_builtin; go_loud (refine app_rd _ rfl _ _ rfl v6.heap.size g7 c7 128 L.put PL.out rfl (O7.out.alloc _) (v7.heap.size + 1) (some ⟨v7.heap.size, 0, none⟩) 1 1 [0] rfl rfl ?c5 (fun h => by cases h) ?c6 ?c7 ?_))
      case c5 => exact RdB.lit v7 #[.int .u8 0] 5 _ [0] rfl UX.out
      case c6 => decide
      case c7 => have := B7.out.size; simp; omega
      intro g8 c8 v8 o8 hgr
      have b8 : Below v6.heap.size v6 v8 := Below.grown (B7.out.alloc B7.out.size _) hgr (by have := B7.out.size; simp; omega) (fun q hq => by injection hq with hq; have := O7.out.lt.1; omega)
      have Y8 := Lib.hid (Y6.out.below b8)
      have P8 := Lib.hid (P6.out.below b8)
      have Q8 := Lib.hid (Q6.out.below b8)
      have L8 := Lib.hid (L6.out.below b8)
      have M8 := Lib.hid (M6.out.below b8)
      have B8 := Lib.hid (bstep B6.out b8)
      have LN : Hid ((L.put ++ [0]).length = 129) := Lib.hid (by rw [List.length_append, PL.out]; rfl)
      have GN : Hid (Calls Try.prog 8 #[.slice (some ⟨g8, 0, none⟩) 129 c8] v8 fun e w' => e = .returned (.tuple #[.agg (lv Lf.zero).toArray, .bool false]) ∧ Below v8.heap.size v8 w') := Lib.hid (get_nil v8.heap.size (some ⟨g8, 0, none⟩) 129 c8 (L.put ++ [0]) LN.out (by decide) v8 o8.reads (Nat.le_refl _) (by have := o8.cap.1; rw [LN.out] at this; exact this) (getLf_len (by rw [LN.out]; decide)))
      clear o8 hgr b8 O7 B7 UX LN Y6 P6 Q6 L6 M6 B6
      go_wp2_with fail
      refine GN.out.mono ?_
      rintro e v9 ⟨rfl, b9⟩
      have Y9 := Lib.hid (Y8.out.below b9)
      have P9 := Lib.hid (P8.out.below b9)
      have Q9 := Lib.hid (Q8.out.below b9)
      have L9 := Lib.hid (L8.out.below b9)
      have M9 := Lib.hid (M8.out.below b9)
      have B9 := Lib.hid (bstep B8.out b9)
      clear b9 GN Y8 P8 Q8 L8 M8 B8
      go_wp2_with (with_reducible refine alloc_leaf rfl rfl ?_)
      intro u1 l5 b5 s5
      obtain ⟨y3, hy⟩ : ∃ y, y = v9.heap.size := ⟨_, rfl⟩
      rw [← hy] at l5 ⊢
      have Z5 := Lib.hid l5; have BZ := Lib.hid b5; have HY := Lib.hid hy
      clear hy l5 b5 s5
      go_wp2_with (with_reducible refine store_leaf rfl _ _ rfl y3 Lf.zero Lf.zero Z5.out Lf.zero_ok rfl rfl ?_)
      intro a1 l6 k6 s6
      have b6 := below_fresh HY.out BZ.out k6
      have Y1 := Lib.hid (Y9.out.below b6)
      have P1 := Lib.hid (P9.out.below b6)
      have Q1 := Lib.hid (Q9.out.below b6)
      have L1 := Lib.hid (L9.out.below b6)
      have M1 := Lib.hid (M9.out.below b6)
      have B1 := Lib.hid (bstep B9.out b6)
      clear b6 l6 k6 s6 Z5 BZ HY Y9 P9 Q9 L9 M9 B9
      obtain ⟨E, hE⟩ : ∃ E, E = decide (L = M) := ⟨_, rfl⟩
      have eq1 := neqLf_run OK.out OK.out
      rw [decide_eq_true (rfl : L = L), Bool.not_true] at eq1
      have eq2 := eqlLf_run OK.out OM.out
      rw [← hE] at eq2
      have SM : Hid (∀ W, Below a1.heap.size a1 W → Calls Try.prog 9 #[.slice (some ⟨gp, 0, none⟩) 128 cp, .slice (some ⟨gq, 0, none⟩) 128 cq] W fun e w' => e = .returned (.bool E) ∧ Below W.heap.size W w') := Lib.hid (fun W hb => by
        have h := bsame_eq W.heap.size (some ⟨gp, 0, none⟩) (some ⟨gq, 0, none⟩) 128 cp cq L.put M.put W (by decide) PL.out (Lf.put_len OM.out) (P1.out.below hb).reads (Q1.out.below hb).reads (Nat.le_refl _)
        have e : decide (L.put = M.put) = E := by rw [hE, decide_eq_decide]; exact put_inj OK.out RL.out OM.out RM.out
        rw [e] at h
        exact h)
      clear hE
      have eg := lf_guard
      have KS : Hid (∀ w', Below a1.heap.size a1 w' → (loadLf (.pointer (some ⟨y, 0, none⟩))).run Try.prog w' = .ok (.agg (lv L).toArray) w' ∧ (loadLf (.pointer (some ⟨b, 0, none⟩))).run Try.prog w' = .ok (.agg (lv L).toArray) w' ∧ (loadLf (.pointer (some ⟨d, 0, none⟩))).run Try.prog w' = .ok (.agg (lv M).toArray) w') := Lib.hid (fun w' hb => ⟨loadLf_run (Y1.out.below hb), loadLf_run (L1.out.below hb), loadLf_run (M1.out.below hb)⟩)
      go_upto_region 7 with fail
      go_region_held_law (fun w' => (loadLf (.pointer (some ⟨y, 0, none⟩))).run Try.prog w' = .ok (.agg (lv L).toArray) w' ∧ (loadLf (.pointer (some ⟨b, 0, none⟩))).run Try.prog w' = .ok (.agg (lv L).toArray) w' ∧ (loadLf (.pointer (some ⟨d, 0, none⟩))).run Try.prog w' = .ok (.agg (lv M).toArray) w') ((refine KS.out _ ?_; first | exact BS.out | exact (Below.refl _ _).drew | exact Below.refl _ _))
        (first
          | (go_at_call 9; (with_reducible refine (SM.out a1.drew (Below.refl _ _).drew).mono ?_); rintro e a2 ⟨rfl, bs⟩; have BS : Hid (Below a1.heap.size a1 a2) := Lib.hid ((Below.refl _ _).drew.trans bs); clear bs))
      have P3 := Lib.hid (P1.out.below BS.out)
      have B3 := Lib.hid (bstep B1.out BS.out)
      have hgw : w.heap.size ≤ gp := by have := P1.out.lt.1; have := SW1.out; omega
      clear KS SM eq1 eq2 eg Y1 P1 Q1 L1 M1 B1 BS
      go_wp2_with fail
      refine (within_in at_ 0 992 HAT.out (by decide) (by decide) (by decide) (by decide) a2).mono ?_
      rintro e w' ⟨pb, rfl, p0, p1, rfl⟩
      obtain ⟨p, rfl⟩ : ∃ q : Nat, pb = q := ⟨pb.toNat, by omega⟩
      have hp : p + 32 ≤ 8 * 128 := by omega
      go_wp2
      go_loopw [18] (fun kv wr => ∃ k : Nat, k ≤ 32 ∧ kv = .int .i64 k ∧ BurstI w w1.heap.size gp cp p L.put X k wr) (fun kv _ => 32 - (intOf kv).toNat)
      case atStart => exact ⟨0, Nat.zero_le _, rfl, L.put, P3.out, PL.out, by simp only [some1]; rw [csteps_zero, BitVec.xor_zero], fun _ => rfl, B3.out⟩
      case round =>
        obtain ⟨k, hk, rfl, ys, ow, hyl, hf, hz, bel⟩ := hrel
        have HF := Lib.hid hf; have HL := Lib.hid hyl; have OW := Lib.hid ow; have HZ := Lib.hid hz; have BEL := Lib.hid bel
        clear hf hyl ow hz bel
        by_cases hlt : k < 32
        · have hb := bit_u32 X k
          by_cases hbit : X.getLsbD k = true
          · rw [if_pos hbit] at hb
            have b1 : (bits .and .u32 (wrd X / 2 ^ k) 1 == 1) = true := by rw [hb]; rfl
            have NZ : Hid (¬ X = 0#32) := Lib.hid (fun e => by rw [e] at hbit; simp at hbit)
            obtain ⟨s, hs⟩ : ∃ s : Nat, s = p + k := ⟨_, rfl⟩
            obtain ⟨q, hq⟩ : ∃ q : Nat, q = s / 8 := ⟨_, rfl⟩
            obtain ⟨r, hrr⟩ : ∃ r : Nat, r = s % 8 := ⟨_, rfl⟩
            have q1 : q < 128 := by omega
            have r1 : r < 8 := by omega
            have i1 : IntKind.i64.wrap ((p : Int) + (k : Int)) = (s : Int) := by rw [IntKind.wrap_i64]; omega
            have i2 : (s : Int).tdiv 8 = (q : Int) := by rw [Int.tdiv_eq_ediv_of_nonneg (by omega)]; omega
            have i3 : (s : Int).tmod 8 = (r : Int) := by rw [Int.tmod_eq_emod_of_nonneg (by omega)]; omega
            have i4 : (0 : Int) ≤ (q : Int) := by omega
            have i5 : (q : Int) < (128 : Int) := by omega
            have z1 := OW.out.cell (k := q) (by rw [HL.out]; exact q1)
            have f1 := OW.out.frozen q
            obtain ⟨mm, i6, um, bm⟩ := mask_of r r1
            have uv : U8 (ys.getD q 0) := OW.out.2 q (by rw [HL.out]; exact q1)
            have fin := turn_one ys L.put X 128 p k mm HL.out hp hlt hbit HF.out (by rw [← hs, ← hq]; exact uv) um (by rw [← hs, ← hrr]; exact bm)
            rw [← hs, ← hq] at fin
            have i7 := xor_u8 (ys.getD q 0) mm
            have OS := Lib.hid (OW.out.set q (xorB (ys.getD q 0) mm) (xorB_U8 _ _))
            have SL : (ys.set q (xorB (ys.getD q 0) mm)).length = 128 := by rw [List.length_set]; exact HL.out
            obtain ⟨V, hV⟩ : ∃ V, V = xorB (ys.getD q 0) mm := ⟨_, rfl⟩
            rw [← hV] at i7 OS SL fin
            obtain ⟨v, hv⟩ : ∃ v, v = ys.getD q 0 := ⟨_, rfl⟩
            rw [← hv] at i7 z1 uv
            have FIN := Lib.hid fin; have HSL := Lib.hid SL
            clear hs hq hrr fin SL hV hv bm
            obtain ⟨uv0, uv1⟩ := id uv
            obtain ⟨um0, um1⟩ := id um
            go_wp2_with fail
            go_region
            all_goals
              clear i1 i2 i3 i6 i7
              go_wp2
              go_roundw
              case rel => exact ⟨k + 1, by omega, by go_num, _, OS.out.drew, HSL.out, FIN.out, fun e => absurd e NZ.out, (BEL.out.setCell (p := ⟨gp, q, none⟩) hgw _).drew⟩
              case measure => simp [intOf]; omega
          · rw [if_neg hbit] at hb
            have b1 : (bits .and .u32 (wrd X / 2 ^ k) 1 == 1) = false := by rw [hb]; rfl
            have FN : Hid (feeds ones ys = feeds ones L.put ^^^ csteps (8 * 128 - p) (some1 X (k + 1))) := Lib.hid (by simp only [some1]; rw [if_neg hbit]; exact HF.out)
            go_wp2
            go_roundw
            case rel => exact ⟨k + 1, by omega, by go_num, ys, OW.out, HL.out, FN.out, HZ.out, BEL.out⟩
            case measure => simp [intOf]; omega
        · obtain rfl : k = 32 := by omega
          have F2 : Hid (feeds ones ys = feeds ones L.put ^^^ csteps (8 * 128 - p) X) := Lib.hid (by have := HF.out; rw [some1_all] at this; exact this)
          have cy : 128 ≤ cp := c1
          by_cases hX : X = 0#32
          · have EY := Lib.hid (HZ.out hX)
            have wx : (wrd X == 0) = true := by rw [hX]; decide
            have O2 : Hid (Own wr w1.heap.size gp cp L.put) := Lib.hid (by rw [← EY.out]; exact OW.out)
            clear hX
            have GT := Lib.hid (get_put OK.out RL.out _ gp cp wr O2.out)
            go_wp2_with fail
            refine GT.out.mono ?_
            rintro e t1 ⟨rfl, b1⟩
            have B4 := Lib.hid (bstep BEL.out b1)
            clear b1 GT
            go_wp2_with (with_reducible refine alloc_leaf rfl rfl ?_)
            intro t2 l2 b2 s2
            obtain ⟨y4, hy⟩ : ∃ y, y = t1.heap.size := ⟨_, rfl⟩
            rw [← hy] at l2 ⊢
            have Z5 := Lib.hid l2; have BZ := Lib.hid b2; have HY := Lib.hid hy
            clear hy l2 b2 s2
            go_wp2_with (with_reducible refine store_leaf rfl _ _ rfl y4 Lf.zero L Z5.out OK.out rfl rfl ?_)
            intro t3 l3 k3 s3
            have b3 := below_fresh HY.out BZ.out k3
            have B5 := Lib.hid (bstep B4.out b3)
            have ld := loadLf_run l3
            have zr := zeroLf_run
            have eg := lf_guard
            have eq1 := eqlLf_run Lf.zero_ok Lf.zero_ok
            rw [decide_eq_true (rfl : Lf.zero = Lf.zero)] at eq1
            clear b3 l3 k3 s3 Z5 BZ HY B4
            go_wp2_with fail
            refine (lruns_any t3).mono ?_
            rintro e t4 ⟨rfl, b4⟩
            go_wp2
            go_ret
            exact ⟨rfl, bstep B5.out b4⟩
          · have GN := Lib.hid (getLf_burst OK.out RL.out _ X F2.out hX)
            have wx := wrd_ne hX
            clear hX
            have GT := Lib.hid (get_nil wr.heap.size (some ⟨gp, 0, none⟩) 128 cp ys HL.out (by decide) wr OW.out.reads (Nat.le_refl _) cy GN.out)
            go_wp2_with fail
            refine GT.out.mono ?_
            rintro e t1 ⟨rfl, b1⟩
            have B4 := Lib.hid (bstep BEL.out b1)
            clear b1 GT
            go_wp2_with (with_reducible refine alloc_leaf rfl rfl ?_)
            intro t2 l2 b2 s2
            obtain ⟨y4, hy⟩ : ∃ y, y = t1.heap.size := ⟨_, rfl⟩
            rw [← hy] at l2 ⊢
            have Z5 := Lib.hid l2; have BZ := Lib.hid b2; have HY := Lib.hid hy
            clear hy l2 b2 s2
            go_wp2_with (with_reducible refine store_leaf rfl _ _ rfl y4 Lf.zero Lf.zero Z5.out Lf.zero_ok rfl rfl ?_)
            intro t3 l3 k3 s3
            have b3 := below_fresh HY.out BZ.out k3
            have B5 := Lib.hid (bstep B4.out b3)
            have ld := loadLf_run l3
            have zr := zeroLf_run
            have eg := lf_guard
            have eq1 := eqlLf_run Lf.zero_ok Lf.zero_ok
            rw [decide_eq_true (rfl : Lf.zero = Lf.zero)] at eq1
            clear b3 l3 k3 s3 Z5 BZ HY B4
            go_wp2_with fail
            refine (lruns_any t3).mono ?_
            rintro e t4 ⟨rfl, b4⟩
            go_wp2
            go_ret
            exact ⟨rfl, bstep B5.out b4⟩
    · clear HP HQ op
      have RA := Lib.hid (fun w0 => right_any L OK.out w0)
      have RM := Lib.hid (fun w0 => right_any M OM.out w0)
      rw [tp] at RA
      rw [tq] at RM
      clear tp tq
      have ld1 := loadLf_run L2.out
      go_wp2_with fail
      refine (RA.out wb).mono ?_
      rintro e wc ⟨rfl, bc⟩
      have M3 := Lib.hid (M2.out.below bc)
      have B3 := Lib.hid (bstep B2.out bc)
      clear bc ld1
      have ld2 := loadLf_run M3.out
      go_wp2_with fail
      refine (RM.out wc).mono ?_
      rintro e we ⟨rfl, be⟩
      have B4 := Lib.hid (bstep B3.out be)
      clear be ld2
      go_wp2_with fail
      refine (lruns_any we).mono ?_
      rintro e wf ⟨rfl, bf⟩
      go_wp2
      go_ret
      exact ⟨rfl, bstep B4.out bf⟩
  · rcases HQ.out with ⟨tq, rfl, gq, rfl, oq⟩ | ⟨tq, rfl, rfl, rfl⟩
    · clear HP HQ oq
      have RA := Lib.hid (fun w0 => right_any L OK.out w0)
      have RM := Lib.hid (fun w0 => right_any M OM.out w0)
      rw [tp] at RA
      rw [tq] at RM
      clear tp tq
      have ld1 := loadLf_run L2.out
      go_wp2_with fail
      refine (RA.out wb).mono ?_
      rintro e wc ⟨rfl, bc⟩
      have M3 := Lib.hid (M2.out.below bc)
      have B3 := Lib.hid (bstep B2.out bc)
      clear bc ld1
      have ld2 := loadLf_run M3.out
      go_wp2_with fail
      refine (RM.out wc).mono ?_
      rintro e we ⟨rfl, be⟩
      have B4 := Lib.hid (bstep B3.out be)
      clear be ld2
      go_wp2_with fail
      refine (lruns_any we).mono ?_
      rintro e wf ⟨rfl, bf⟩
      go_wp2
      go_ret
      exact ⟨rfl, bstep B4.out bf⟩
    · clear HP HQ
      have RA := Lib.hid (fun w0 => right_any L OK.out w0)
      have RM := Lib.hid (fun w0 => right_any M OM.out w0)
      rw [tp] at RA
      rw [tq] at RM
      clear tp tq
      have ld1 := loadLf_run L2.out
      go_wp2_with fail
      refine (RA.out wb).mono ?_
      rintro e wc ⟨rfl, bc⟩
      have M3 := Lib.hid (M2.out.below bc)
      have B3 := Lib.hid (bstep B2.out bc)
      clear bc ld1
      have ld2 := loadLf_run M3.out
      go_wp2_with fail
      refine (RM.out wc).mono ?_
      rintro e we ⟨rfl, be⟩
      have B4 := Lib.hid (bstep B3.out be)
      clear be ld2
      go_wp2_with fail
      refine (lruns_any we).mono ?_
      rintro e wf ⟨rfl, bf⟩
      go_wp2
      go_ret
      exact ⟨rfl, bstep B4.out bf⟩
end Go.Proofs.Ytkmlajlnpfoepaa
