/-
  DiskPlays, over the contracts of package disk and those of the document's own.
-/
import Derived.Test.YtaehgpieichjkaaDRuns
import Derived.Test.YtaehgpieichjkaaDTwo
import Derived.Test.YtaehgpieichjkaaDAsk
import Derived.Test.YtaehgpieichjkaaWArr
import Derived.Lib.MinMax
import Derived.Deep.DeepCutAuto
import Derived.Deep.RegionHeld3
import Derived.BigRegion
import Derived.BigQuiet
import Derived.Deep.CutBlock
import Derived.Deep.RegionHeldLaw
namespace Go.Proofs.Ytaehgpieichjkaa
set_option linter.unusedVariables false
set_option linter.unusedSimpArgs false
open Go.RowKit

/-- Both disks behind i asks. -/
structure PlayI (w wr : World) (d r m i : Nat) (s : Dk) (X : List Nat) : Prop where
  len : s.blk.length = m
  wt : s.wt.length ≤ i
  wrote : s.wrote ≤ i
  two : Two w wr d r s s X

theorem Two.fuse {w0 w : World} {d r : Nat} {s t : Dk} {X : List Nat} (h : Two w0 w d r s t X) : w.cell? ⟨r, 4, none⟩ = some (.int .i64 t.fuse) ∧ w.frozen? ⟨r, 4, none⟩ = false := by
  obtain ⟨⟨F, G, k1, ⟨p, k2⟩, _⟩, hb⟩ := h
  exact ⟨k2.st.cell 4, k2.st.frozen 4⟩
theorem Two.cells {w0 w : World} {d r : Nat} {s t : Dk} {X : List Nat} (h : Two w0 w d r s t X) : ∃ AA cA, w.cell? ⟨r, 2, none⟩ = some (.slice AA t.wt.length cA) ∧ w.cell? ⟨r, 5, none⟩ = some (.bool t.off) ∧ w.cell? ⟨r, 6, none⟩ = some (.int .i64 (t.wrote : Int)) := by
  obtain ⟨⟨F, G, k1, ⟨p, k2⟩, _⟩, hb⟩ := h
  exact ⟨p.AA, p.cA, k2.st.cell 2, k2.st.cell 5, k2.st.cell 6⟩
theorem TwoTo.pop {w0 w w' : World} {d r x : Nat} {s t : Dk} {X : List Nat} (h : TwoTo w0 w d r s t (x :: X) w') : TwoTo w0 w d r s t X w' :=
  ⟨h.1.less (fun y hy => List.mem_cons_of_mem _ hy), fun y hy => h.2.1 y (List.mem_cons_of_mem _ hy), h.2.2⟩
theorem Two.filled {w0 w w' : World} {d r : Nat} {s t : Dk} {X : List Nat} {x : Int} {e : Ending} (h : Two w0 w d r s t X) (f : FillL w x e w') : Two w0 w' d r s t (w.heap.size :: X) := h.push f.2.2 (Nat.le_refl _) f.2.1.lt.2
theorem u32_of_int (x : Int) (h : U32 x) : ∃ X : B32, x = wrd X := by
  refine ⟨BitVec.ofNat 32 x.toNat, ?_⟩
  unfold U32 at h
  unfold wrd
  rw [BitVec.toNat_ofNat]
  omega
theorem burst_len (s : Dk) (i a : Nat) (x : B32) : (s.burst i a x).blk.length = s.blk.length := by unfold Dk.burst; simp
theorem write_play {s : Dk} {m i k : Nat} {b : List Int} (h1 : s.blk.length = m) (h2 : s.wt.length ≤ i) (h3 : s.wrote ≤ i) : (s.write k b).blk.length = m ∧ (s.write k b).wt.length ≤ i + 1 ∧ (s.write k b).wrote ≤ i + 1 := by
  unfold Dk.write
  split
  · refine ⟨h1, ?_, ?_⟩
    · show (s.wt ++ [(k, b)]).length ≤ _
      simp; exact h2
    · show s.wrote + 1 ≤ _
      omega
  · exact ⟨h1, Nat.le_succ_of_le h2, Nat.le_succ_of_le h3⟩
theorem flush_play {s : Dk} {m i : Nat} (h1 : s.blk.length = m) (h2 : s.wt.length ≤ i) (h3 : s.wrote ≤ i) : s.flush.blk.length = m ∧ s.flush.wt.length ≤ i + 1 ∧ s.flush.wrote ≤ i + 1 := by
  unfold Dk.flush
  split
  · obtain ⟨e1, e2, e3, e4, e5⟩ := Dk.lands_same s.wt s.burn
    refine ⟨e5.trans h1, Nat.zero_le _, ?_⟩
    show (s.burn.lands s.wt).wrote ≤ _
    rw [e4]
    exact Nat.le_succ_of_le h3
  · exact ⟨h1, Nat.le_succ_of_le h2, Nat.le_succ_of_le h3⟩
theorem boot_play {s : Dk} {m i : Nat} (how : List Int) (h1 : s.blk.length = m) (h3 : s.wrote ≤ i) : (s.boot how).blk.length = m ∧ (s.boot how).wt.length ≤ i + 1 ∧ (s.boot how).wrote ≤ i + 1 := by
  obtain ⟨e1, e2, e3⟩ := Dk.boots_same how s.wt 0 s
  refine ⟨e3.trans h1, Nat.zero_le _, ?_⟩
  show (Dk.boots how 0 s.wt s).wrote ≤ _
  rw [e2]
  exact Nat.le_succ_of_le h3

theorem lastFor_mem (i : Nat) (b : List Int) (l : List (Nat × List Int)) : lastFor l i = some b → ∃ p, p ∈ l ∧ p.2 = b := by
  refine snoc_ind (P := fun l => lastFor l i = some b → ∃ p, p ∈ l ∧ p.2 = b) (fun h => by cases h) ?_ l
  intro l p ih h
  rw [lastFor_snoc] at h
  by_cases e : p.1 = i
  · rw [if_pos e] at h
    injection h with h
    exact ⟨p, by simp, h⟩
  · rw [if_neg e] at h
    obtain ⟨q, h1, h2⟩ := ih h
    exact ⟨q, by simp [h1], h2⟩
theorem Dk.read_blk {s : Dk} (ok : s.Ok) (k : Nat) (hk : k < s.blk.length) (xs : List Int) (h : s.read k = some xs) : IsBlk xs := by
  unfold Dk.read at h
  cases ho : s.off
  · rw [ho] at h
    cases hl : lastFor s.wt k with
    | some b =>
      rw [hl] at h
      obtain ⟨p, h1, h2⟩ := lastFor_mem k b s.wt hl
      have h : some b = some xs := h
      injection h with h
      rw [← h, ← h2]
      exact (ok.wts p h1).2
    | none =>
      rw [hl] at h
      cases hb : s.bad.getD k false
      · rw [hb] at h
        have h : some (s.blk.getD k []) = some xs := h
        injection h with h
        rw [← h]
        exact ok.blks k hk
      · rw [hb] at h
        cases h
  · rw [ho] at h
    cases h
/-- A disk, its twin and the document's own lie apart. -/
def Three (w0 w : World) (d d' r : Nat) (sx s t : Dk) : Prop :=
  (∃ F T G, DiskAt w F d sx ∧ DiskAt w T d' s ∧ RefAt w G r t ∧ (∀ k, F k → ¬ T k) ∧ (∀ k, F k → ¬ G k) ∧ (∀ k, T k → ¬ G k) ∧ (∀ k, F k → w0.heap.size ≤ k) ∧ (∀ k, T k → w0.heap.size ≤ k) ∧ (∀ k, G k → w0.heap.size ≤ k)) ∧ Below w0.heap.size w0 w
theorem Three.two {w0 w : World} {d d' r : Nat} {sx s t : Dk} (h : Three w0 w d d' r sx s t) : Two w0 w d' r s t [] := by
  obtain ⟨⟨F, T, G, h1, h2, h3, h4, h5, h6, h7, h8, h9⟩, hb⟩ := h
  exact ⟨⟨T, G, h2, h3, h6, h8, h9, fun x hx => by simp at hx⟩, hb⟩
theorem three_step {w0 w w' : World} {F T G : Nat → Prop} {d d' r : Nat} {sx s t : Dk} (h2 : DiskAt w T d' s) (h3 : RefAt w G r t) (h4 : ∀ k, F k → ¬ T k) (h5 : ∀ k, F k → ¬ G k) (h6 : ∀ k, T k → ¬ G k) (h7 : ∀ k, F k → w0.heap.size ≤ k) (h8 : ∀ k, T k → w0.heap.size ≤ k) (h9 : ∀ k, G k → w0.heap.size ≤ k) (hb : Below w0.heap.size w0 w) (st : Step F d sx w w') : Three w0 w' d d' r sx s t := by
  obtain ⟨F', hd, hk, hs⟩ := st
  have h0 := hb.size
  refine ⟨⟨F', T, G, hd, h2.stay (fun j hj => hk.block j (h2.lt j hj) (fun e => h4 j e hj)), h3.stay (fun j hj => hk.block j (h3.lt j hj) (fun e => h5 j e hj)) hk.size, fun k e e' => ?_, fun k e e' => ?_, h6, fun k e => ?_, h8, h9⟩, hk.below h7 hb h0⟩
  · rcases hs k e with e | e
    · exact h4 k e e'
    · have := h2.lt k e'; omega
  · rcases hs k e with e | e
    · exact h5 k e e'
    · have := h3.lt k e'; omega
  · rcases hs k e with e | e
    · exact h7 k e
    · omega
theorem three_write (w0 : World) (d d' r : Nat) (sx s t : Dk) (x : Int) (hx : U8 x) (e0 : Ending) (w w' : World) (h : Three w0 w d d' r sx s t) (f : FillL w x e0 w') (hw : sx.wt.length ≤ 1000000) (hv : sx.wrote ≤ 1000000000000) :
    Calls Try.prog 10 #[.pointer (some ⟨d, 0, none⟩), .int .i64 0, .slice (some ⟨w.heap.size, 0, none⟩) 128 128] w' fun e w'' => e = .returned (.int .i64 sx.says) ∧ Three w0 w'' d d' r (sx.write 0 (fillB x)) s t := by
  obtain ⟨⟨F, T, G, h1, h2, h3, h4, h5, h6, h7, h8, h9⟩, hb⟩ := h
  obtain ⟨_, o, b⟩ := f
  have h1' := h1.stay (w' := w') (fun j hj => b.block j (h1.lt j hj))
  refine (disk_write F d sx 0 128 _ _ (fillB x) w' h1' (by have := h1.ok.n1; omega) (IsBlk.fill hx) o.reads (Nat.le_refl _) (fun a ha e => ?_) hw hv).mono ?_
  · injection ha with ha
    subst ha
    have := h1.lt _ e
    exact absurd this (Nat.lt_irrefl _)
  rintro e w'' ⟨rfl, st⟩
  exact ⟨rfl, three_step (h2.stay (fun j hj => b.block j (h2.lt j hj))) (h3.stay (fun j hj => b.block j (h3.lt j hj)) b.size) h4 h5 h6 h7 h8 h9 (hb.trans (b.mono hb.size)) st⟩
theorem three_boot (w0 : World) (d d' r : Nat) (sx s t : Dk) (x : Int) (hx : U8 x) (ty : TypeId) (m : Nat × Nat) (w : World) (h : Three w0 w d d' r sx s t) (hw : sx.wt.length ≤ 1000000) :
    Calls Try.prog 12 #[.pointer (some ⟨d, 0, none⟩), .slice (some ⟨w.heap.size, 0, none⟩) 1 1] (w.alloc (.cells #[.int .u8 x] ty m)) fun e w' => e = .returned (.tuple #[]) ∧ Three w0 w' d d' r (sx.boot [x]) s t := by
  obtain ⟨⟨F, T, G, h1, h2, h3, h4, h5, h6, h7, h8, h9⟩, hb⟩ := h
  have b : Below w.heap.size w (w.alloc (.cells #[.int .u8 x] ty m)) := Below.alloc (Below.refl _ _) (Nat.le_refl _) _
  have hu : ∀ k, k < [x].length → U8 ([x].getD k 0) := fun k hk => by
    obtain rfl : k = 0 := by simp at hk; exact hk
    exact hx
  refine (disk_boot F d sx 1 1 _ _ [x] _ (h1.stay (fun j hj => b.block j (h1.lt j hj))) rfl (by decide) (RdB.lit w #[.int .u8 x] ty m [x] rfl hu) (by simp) (fun a ha _ e => ?_) hw).mono ?_
  · injection ha with ha
    subst ha
    have := h1.lt _ e
    exact absurd this (Nat.lt_irrefl _)
  rintro e w'' ⟨rfl, st⟩
  exact ⟨rfl, three_step (h2.stay (fun j hj => b.block j (h2.lt j hj))) (h3.stay (fun j hj => b.block j (h3.lt j hj)) b.size) h4 h5 h6 h7 h8 h9 (hb.trans (b.mono hb.size)) st⟩
theorem says_write_len (s : Dk) (b : List Int) : (s.write 0 b).wt.length ≤ s.wt.length + 1 := by
  unfold Dk.write
  split
  · show (s.wt ++ [(0, b)]).length ≤ _
    simp
  · exact Nat.le_succ _

set_option maxRecDepth 100000 in
set_option maxHeartbeats 16000000 in
theorem dplays_any (n : Int) (hn : I64 n) (A : Option Addr) (len cap : Nat) (f : Nat → AskD) (w : World) (hr : AskR w A len f) (hc : len ≤ cap) (hm : cap ≤ maxLen) :
    Calls Try.prog 4 #[.int .i64 n, .slice A len cap] w fun e w' => e = .returned (.bool true) ∧ Below w.heap.size w w' := by
  unfold maxLen at hm
  have HN := Lib.hid hn; have HR := Lib.hid hr
  obtain ⟨n0, n1⟩ := id hn
  clear hn hr
  go_enter Try.func4, Try.ntmps4
  by_cases hnn : n < 1 ∨ 512 < n
  · go_wp2_with fail
    refine (disk_none n HN.out.1 HN.out.2 hnn w).mono ?_
    rintro e w1 ⟨rfl, b1⟩
    have B1 := Lib.hid b1
    clear b1
    go_wp2_with fail
    refine (rnone_any n HN.out.1 HN.out.2 hnn w1).mono ?_
    rintro e w2 ⟨rfl, rfl⟩
    go_wp2
    go_loopw [5, 7] (fun dv iv wr => dv = .pointer none ∧ iv = .int .i64 0 ∧ w2 = wr) (fun _ _ _ => 0)
    case atStart => exact ⟨rfl, rfl, rfl⟩
    case round =>
      obtain ⟨rfl, rfl, rfl⟩ := hrel
      go_upto_region 5 with fail
      go_cut [37] (fun v wd => v = .bool false ∧ w2 = wd)
      case first =>
        by_cases h0 : 0 < len
        · have t1 : decide ((0 : Int) < (len : Int)) = true := by rw [decide_eq_true_eq]; omega
          have t2 : decide (0 < len) = true := by rw [decide_eq_true_eq]; omega
          go_wp2
          go_meet
          case rel => exact ⟨rfl, rfl⟩
        · have t1 : decide ((0 : Int) < (len : Int)) = false := by rw [decide_eq_false_iff_not]; omega
          have t2 : decide (0 < len) = false := by rw [decide_eq_false_iff_not]; omega
          go_wp2
          go_meet
          case rel => exact ⟨rfl, rfl⟩
      case rest =>
      obtain ⟨rfl, rfl⟩ := hcut
      go_wp2_with fail
      refine (druns_any w2).mono ?_
      rintro e w3 ⟨rfl, b3⟩
      have B3 := Lib.hid (bstep B1.out b3)
      clear b3 B1
      go_wp2
      go_ret
      exact ⟨rfl, B3.out⟩
  · obtain ⟨m, rfl⟩ : ∃ m : Nat, n = (m : Int) := ⟨n.toNat, by omega⟩
    have m1 : 1 ≤ m := by omega
    have m2 : m ≤ 512 := by omega
    go_wp2_with fail
    refine (disk_new m m1 m2 w).mono ?_
    rintro e w1 ⟨d, F, rfl, hd, hF, b1⟩
    have HD := Lib.hid hd; have HF := Lib.hid hF; have B1 := Lib.hid b1
    clear hd hF b1
    go_wp2_with fail
    refine (rnew_any m m1 m2 w1).mono ?_
    rintro e w2 ⟨r, G, rfl, hg, hG, b2⟩
    have P0 : Hid (PlayI w w2 d r m 0 (Dk.new m) []) := Lib.hid (by
      have hs := B1.out.size
      refine ⟨by unfold Dk.new; simp, Nat.le_refl _, Nat.le_refl _, ⟨F, G, HD.out.stay (fun j hj => b2.block j (HD.out.lt j hj)), hg, fun k e e' => ?_, HF.out, fun k e => ?_, fun x hx => by simp at hx⟩, B1.out.trans (b2.mono hs)⟩
      · have := HD.out.lt k e
        have := hG k e'
        omega
      · have := hG k e
        omega)
    clear hg hG b2 HD HF B1
    go_wp2
    go_loopw [4, 5, 7, 8, 9, 10, 11, 12, 13, 14, 15, 16] (fun _ dv iv _ _ _ _ _ _ _ _ _ wr => ∃ (i d : Nat) (s : Dk), i ≤ 40 ∧ i ≤ len ∧ iv = .int .i64 (i : Int) ∧ dv = .pointer (some ⟨d, 0, none⟩) ∧ PlayI w wr d r m i s []) (fun _ _ iv _ _ _ _ _ _ _ _ _ _ => 40 - (intOf iv).toNat)
    case atStart => exact ⟨0, d, _, by omega, by omega, rfl, rfl, P0.out⟩
    case round =>
      obtain ⟨i, d, s, hi, hil, rfl, rfl, hP⟩ := hrel
      have HP := Lib.hid hP
      clear hP P0
      by_cases hlt : i < len ∧ i < 40
      · obtain ⟨hlt, h40⟩ := hlt
        have t1 : decide ((i : Int) < (len : Int)) = true := by rw [decide_eq_true_eq]; omega
        have t2 : decide ((i : Int) < 40) = true := by rw [decide_eq_true_eq]; omega
        obtain ⟨bb, oo, rfl, hbb, c0, c1, c2, c3, c4, c5, c6, c7, ⟨u0, u1, u2, u3, u4, u5⟩, ⟨v0, v1, v2⟩⟩ := HR.out i hlt
        have l1 : (i : Int) < (len : Int) := by omega
        have l0 : (0 : Int) ≤ (i : Int) := by omega
        have bel := HP.out.two.2
        rw [← bel.cell (p := ⟨bb, oo + i * 8, none⟩) hbb] at c0
        rw [← bel.cell (p := ⟨bb, oo + i * 8 + 1, none⟩) hbb] at c1
        rw [← bel.cell (p := ⟨bb, oo + i * 8 + 2, none⟩) hbb] at c2
        rw [← bel.cell (p := ⟨bb, oo + i * 8 + 3, none⟩) hbb] at c3
        rw [← bel.cell (p := ⟨bb, oo + i * 8 + 4, none⟩) hbb] at c4
        rw [← bel.cell (p := ⟨bb, oo + i * 8 + 5, none⟩) hbb] at c5
        rw [← bel.cell (p := ⟨bb, oo + i * 8 + 6, none⟩) hbb] at c6
        rw [← bel.cell (p := ⟨bb, oo + i * 8 + 7, none⟩) hbb] at c7
        generalize (f i).kind = kd at *
        generalize (f i).i = fi at *
        generalize (f i).a = fa at *
        generalize (f i).n = fn at *
        generalize (f i).x = fx at *
        generalize (f i).by_ = fb at *
        generalize (f i).hA = hA at *
        generalize (f i).hn = hn at *
        generalize (f i).hc = hcc at *
        generalize (f i).how = how at *
        generalize (f i).short = sh at *
        have U1 := Lib.hid u1; have U2 := Lib.hid u2; have U3 := Lib.hid u3; have U4 := Lib.hid u4; have U5 := Lib.hid u5; have V0 := Lib.hid v0; have V1 := Lib.hid v1; have V2 := Lib.hid v2
        clear u0 u1 u2 u3 u4 u5 v0 v1 v2 bel
        obtain ⟨hq, hhq⟩ : ∃ hq, hq = wr.heap.size := ⟨_, rfl⟩
        obtain ⟨X, rfl⟩ := u32_of_int fb U5.out
        obtain ⟨x0, x1⟩ := u32_bd X
        obtain ⟨i0, i1⟩ := id U1.out
        obtain ⟨a0, a1⟩ := id U2.out
        obtain ⟨n2, n3⟩ := id U3.out
        obtain ⟨f0, f1⟩ := id U4.out
        have AQ : Hid (Arr (wr.alloc (.cells #[.int .i64 kd, .int .i64 fi, .int .i64 fa, .int .i64 fn, .int .u8 fx, .int .u32 (wrd X), .slice hA hn hcc, .bool sh] 40)) hq 40 [.int .i64 kd, .int .i64 fi, .int .i64 fa, .int .i64 fn, .int .u8 fx, .int .u32 (wrd X), .slice hA hn hcc, .bool sh]) := Lib.hid (by rw [hhq]; exact Arr.new wr _ _)
        have T2 : Hid (Two w (wr.alloc (.cells #[.int .i64 kd, .int .i64 fi, .int .i64 fa, .int .i64 fn, .int .u8 fx, .int .u32 (wrd X), .slice hA hn hcc, .bool sh] 40)) d r s s [hq]) := Lib.hid (HP.out.two.push (Below.alloc (Below.refl _ _) (Nat.le_refl _) _) (by omega) (by simp; omega))
        have PL := Lib.hid HP.out.len; have PW := Lib.hid HP.out.wt; have PV := Lib.hid HP.out.wrote
        have HHQ := Lib.hid hhq
        have OKs := Lib.hid HP.out.two.ok
        clear hhq HP
        go_upto_block 2 with fail
        obtain ⟨W2, hW2⟩ : ∃ W2, W2 = wr.alloc (.cells #[.int .i64 kd, .int .i64 fi, .int .i64 fa, .int .i64 fn, .int .u8 fx, .int .u32 (wrd X), .slice hA hn hcc, .bool sh] 40) := ⟨_, rfl⟩
        rw [← hW2, ← HHQ.out]
        rw [← hW2] at AQ T2
        clear hW2 c0 c1 c2 c3 c4 c5 c6 c7
        go_cut [5, 9] (fun dv ok wd => ok = .bool true ∧ ∃ d' s', dv = .pointer (some ⟨d', 0, none⟩) ∧ PlayI w wd d' r m (i + 1) s' [])
        case first =>
          have q0 : W2.cell? ⟨hq, 0, none⟩ = some (.int .i64 kd) := AQ.out.cell 0
          have q1 : W2.cell? ⟨hq, 1, none⟩ = some (.int .i64 fi) := AQ.out.cell 1
          have q2 : W2.cell? ⟨hq, 2, none⟩ = some (.int .i64 fa) := AQ.out.cell 2
          have q3 : W2.cell? ⟨hq, 3, none⟩ = some (.int .i64 fn) := AQ.out.cell 3
          have q4 : W2.cell? ⟨hq, 4, none⟩ = some (.int .u8 fx) := AQ.out.cell 4
          have q5 : W2.cell? ⟨hq, 5, none⟩ = some (.int .u32 (wrd X)) := AQ.out.cell 5
          have q6 : W2.cell? ⟨hq, 6, none⟩ = some (.slice hA hn hcc) := AQ.out.cell 6
          have q7 : W2.cell? ⟨hq, 7, none⟩ = some (.bool sh) := AQ.out.cell 7
          by_cases k1 : kd = 1
          · subst k1
            as_aux_lemma =>
              go_wp2_with fail
              refine (fill_any fx U4.out W2).mono ?_
              rintro e w3 f3
              have T3 := Lib.hid (T2.out.filled f3)
              have A3 := Lib.hid (AQ.out.below f3.2.2)
              obtain ⟨rfl, o3, _⟩ := f3
              have O3 := Lib.hid o3
              have z1 : w3.cell? ⟨hq, 1, none⟩ = some (.int .i64 fi) := A3.out.cell 1
              have z7 : w3.cell? ⟨hq, 7, none⟩ = some (.bool sh) := A3.out.cell 7
              clear o3 T2 AQ q0 q1 q2 q3 q4 q5 q6 q7
              by_cases hok : sh = false ∧ 0 ≤ fi ∧ fi < (m : Int)
              · obtain ⟨rfl, p0, p1⟩ := hok
                obtain ⟨k, rfl⟩ : ∃ k : Nat, fi = (k : Int) := ⟨fi.toNat, by omega⟩
                have hk : k < m := by omega
                obtain ⟨e9, w9, v9⟩ := write_play (k := k) (b := fillB fx) PL.out PW.out PV.out
                have E9 := Lib.hid e9; have W9 := Lib.hid w9; have V9 := Lib.hid v9
                clear e9 w9 v9
                go_upto_region 14 with fail
                go_region_held_law (fun w' => w'.cell? ⟨hq, 1, none⟩ = some (.int .i64 (k : Int))) (first | go_keep | exact A5.out.cell 1 | exact A4.out.cell 1) (first
                  | (go_at_call 10; refine (td_write w d r s s _ k 128 _ _ _ T3.out.drew (by rw [PL.out]; exact hk) (IsBlk.fill U4.out) _ O3.out.drew (by simp) (by have := PW.out; omega) (by have := PV.out; omega)).mono ?_; rintro e w4 ⟨rfl, t4⟩; have A4 := Lib.hid (A3.out.same (t4.2.1 hq (by simp))); have O4 := Lib.hid (O3.out.same (t4.2.1 W2.heap.size (by simp))); have T4 := Lib.hid t4.1; have y4 : w4.cell? ⟨hq, 1, none⟩ = some (.int .i64 (k : Int)) := A4.out.cell 1; clear t4)
                  | (go_at_call 18; refine (tr_write w d r _ s _ k 128 _ _ _ T4.out (by rw [PL.out]; exact hk) (IsBlk.fill U4.out) _ O4.out (by simp) (by have := PW.out; omega) (by have := PV.out; omega)).mono ?_; rintro e w5 ⟨rfl, t5⟩; have T5 := Lib.hid t5.1; have A5 := Lib.hid (A4.out.same (t5.2.1 hq (by simp))); clear t5))
                all_goals
                  go_wp2
                  go_meet
                  case rel => exact ⟨rfl, d, _, rfl, E9.out, W9.out, V9.out, T5.out.less (fun y hy => by simp at hy)⟩
              · cases sh with
                | false =>
                  have bad : fi < 0 ∨ (s.blk.length : Int) ≤ fi ∨ 128 ≠ 128 := by
                    have : ¬ (0 ≤ fi ∧ fi < (m : Int)) := fun h9 => hok ⟨rfl, h9⟩
                    rw [PL.out]; omega
                  have BAD := Lib.hid bad
                  clear bad hok
                  go_upto_region 14 with fail
                  go_region_held_law (fun w' => w'.cell? ⟨hq, 1, none⟩ = some (.int .i64 fi)) (first | go_keep | exact A4.out.cell 1) (first
                    | (go_at_call 10; refine (td_refuse w d r s s _ fi 128 128 _ _ T3.out.drew i0 i1 (by decide) BAD.out).mono ?_; rintro e w4 ⟨rfl, t4⟩; have A4 := Lib.hid (A3.out.same (t4.2.1 hq (by simp))); have T4 := Lib.hid t4.1; have y4 : w4.cell? ⟨hq, 1, none⟩ = some (.int .i64 fi) := A4.out.cell 1; clear t4)
                    | (go_at_call 18; refine (tr_refuse w d r s s _ fi 128 128 _ _ T4.out i0 i1 (by decide) BAD.out).mono ?_; rintro e w5 ⟨rfl, rfl⟩))
                  all_goals
                    go_wp2
                    go_meet
                    case rel => exact ⟨rfl, d, s, rfl, PL.out, Nat.le_succ_of_le PW.out, Nat.le_succ_of_le PV.out, T4.out.less (fun y hy => by simp at hy)⟩
                | true =>
                  clear hok
                  go_upto_region 14 with fail
                  go_region_held_law (fun w' => w'.cell? ⟨hq, 1, none⟩ = some (.int .i64 fi)) (first | go_keep | exact A4.out.cell 1) (first
                    | (go_at_call 10; refine (td_refuse w d r s s _ fi 127 127 _ _ T3.out.drew i0 i1 (by decide) (Or.inr (Or.inr (by decide)))).mono ?_; rintro e w4 ⟨rfl, t4⟩; have A4 := Lib.hid (A3.out.same (t4.2.1 hq (by simp))); have T4 := Lib.hid t4.1; have y4 : w4.cell? ⟨hq, 1, none⟩ = some (.int .i64 fi) := A4.out.cell 1; clear t4)
                    | (go_at_call 18; refine (tr_refuse w d r s s _ fi 127 127 _ _ T4.out i0 i1 (by decide) (Or.inr (Or.inr (by decide)))).mono ?_; rintro e w5 ⟨rfl, rfl⟩))
                  all_goals
                    go_wp2
                    go_meet
                    case rel => exact ⟨rfl, d, s, rfl, PL.out, Nat.le_succ_of_le PW.out, Nat.le_succ_of_le PV.out, T4.out.less (fun y hy => by simp at hy)⟩
          have e1 : (kd == 1) = false := by simpa using k1
          by_cases k2 : kd = 2
          · subst k2
            as_aux_lemma =>
              obtain ⟨e9, w9, v9⟩ := flush_play PL.out PW.out PV.out
              have E9 := Lib.hid e9; have W9 := Lib.hid w9; have V9 := Lib.hid v9
              clear e9 w9 v9
              go_wp2_with fail
              refine (td_flush w d r s s [hq] W2 T2.out (by have := PW.out; omega)).mono ?_
              rintro e w4 ⟨rfl, t4⟩
              have T4 := Lib.hid t4.1
              obtain ⟨y, hy⟩ : ∃ y, s.says = y := ⟨_, rfl⟩
              rw [hy]
              have HY := Lib.hid hy
              clear t4 hy
              go_wp2_with fail
              refine (tr_flush w d r _ s [hq] w4 T4.out (by have := PW.out; omega)).mono ?_
              rintro e w5 ⟨rfl, t5⟩
              rw [HY.out]
              have T5 := Lib.hid t5.1
              clear t5
              go_wp2
              go_meet
              case rel => exact ⟨rfl, d, _, rfl, E9.out, W9.out, V9.out, T5.out.less (fun y hy => by simp at hy)⟩
          have e2 : (kd == 2) = false := by simpa using k2
          by_cases k3 : kd = 3
          · subst k3
            as_aux_lemma =>
              obtain ⟨e9, w9, v9⟩ := boot_play how PL.out PV.out
              have E9 := Lib.hid e9; have W9 := Lib.hid w9; have V9 := Lib.hid v9
              have HA9 : Hid (∀ a, hA = some a → 0 < hn → a.block < w.heap.size ∨ a.block ∈ [hq]) := Lib.hid (fun a ha h0 => by
                obtain ⟨b9, o9, e9, hb9, _, _⟩ := V0.out 0 (by rw [V1.out]; exact h0)
                rw [ha] at e9
                injection e9 with e9
                subst e9
                exact Or.inl hb9)
              clear e9 w9 v9
              go_wp2_with fail
              refine (td_boot w d r s s [hq] hn hcc w.heap.size hA how W2 T2.out V1.out V2.out (V0.out.below T2.out.2) T2.out.2.size HA9.out (by have := PW.out; omega)).mono ?_
              rintro e w4 ⟨rfl, t4⟩
              have T4 := Lib.hid t4.1
              have A4 := Lib.hid (AQ.out.same (t4.2.1 hq (by simp)))
              have y6 : w4.cell? ⟨hq, 6, none⟩ = some (.slice hA hn hcc) := A4.out.cell 6
              clear t4
              go_wp2_with fail
              refine (tr_boot w d r _ s [hq] hn hcc w.heap.size hA how w4 T4.out V1.out V2.out (V0.out.below T4.out.2) T4.out.2.size HA9.out (by have := PW.out; omega)).mono ?_
              rintro e w5 ⟨rfl, t5⟩
              have T5 := Lib.hid t5.1
              clear t5
              go_wp2
              go_meet
              case rel => exact ⟨rfl, d, _, rfl, E9.out, W9.out, V9.out, T5.out.less (fun y hy => by simp at hy)⟩
          have e3 : (kd == 3) = false := by simpa using k3
          by_cases k4 : kd = 4
          · subst k4
            as_aux_lemma =>
              go_wp2_with fail
              refine (td_arm w d r s s [hq] fn W2 T2.out n2 n3).mono ?_
              rintro e w4 ⟨rfl, t4⟩
              have T4 := Lib.hid t4.1
              have A4 := Lib.hid (AQ.out.same (t4.2.1 hq (by simp)))
              have y3 : w4.cell? ⟨hq, 3, none⟩ = some (.int .i64 fn) := A4.out.cell 3
              obtain ⟨y4, z4⟩ := T4.out.fuse
              obtain ⟨fu, hfu⟩ : ∃ fu, fu = s.fuse := ⟨_, rfl⟩
              rw [← hfu] at y4
              have T5 := Lib.hid (T4.out.arm fn n3).1
              have ef : (s.arm fn).fuse = max fn (-1) := by
                show (if fn < -1 then -1 else fn) = _
                by_cases h9 : fn < -1
                · rw [if_pos h9]; omega
                · rw [if_neg h9]; omega
              rw [ef] at T5
              clear t4 hfu ef
              go_wp2
              go_meet
              case rel => exact ⟨rfl, d, s.arm fn, rfl, PL.out, Nat.le_succ_of_le PW.out, Nat.le_succ_of_le PV.out, T5.out.less (fun y hy => by simp at hy)⟩
          have e4 : (kd == 4) = false := by simpa using k4
          by_cases k5 : kd = 5
          · subst k5
            as_aux_lemma =>
              by_cases hok : 0 ≤ fi ∧ fi < (m : Int) ∧ 0 ≤ fa ∧ fa ≤ 124 ∧ s.wt = []
              · obtain ⟨p0, p1, p2, p3, p4⟩ := hok
                obtain ⟨k, rfl⟩ : ∃ k : Nat, fi = (k : Int) := ⟨fi.toNat, by omega⟩
                obtain ⟨a, rfl⟩ : ∃ a : Nat, fa = (a : Int) := ⟨fa.toNat, by omega⟩
                have hk : k < m := by omega
                have ha : a ≤ 124 := by omega
                have P4 := Lib.hid p4
                clear p4
                go_upto_region 24 with fail
                go_region_held_law (fun w' => w'.cell? ⟨hq, 1, none⟩ = some (.int .i64 (k : Int)) ∧ w'.cell? ⟨hq, 2, none⟩ = some (.int .i64 (a : Int)) ∧ w'.cell? ⟨hq, 5, none⟩ = some (.int .u32 (wrd X))) (first | go_keep | exact ⟨A5.out.cell 1, A5.out.cell 2, A5.out.cell 5⟩ | exact ⟨A4.out.cell 1, A4.out.cell 2, A4.out.cell 5⟩) (first
                  | (go_at_call 22; refine (td_burst w d r s s [hq] k a X _ T2.out.drew (by rw [PL.out]; exact hk) ha P4.out).mono ?_; rintro e w4 ⟨rfl, t4⟩; have A4 := Lib.hid (AQ.out.same (t4.2.1 hq (by simp))); have T4 := Lib.hid t4.1; have y1 : w4.cell? ⟨hq, 1, none⟩ = some (.int .i64 (k : Int)) := A4.out.cell 1; have y2 : w4.cell? ⟨hq, 2, none⟩ = some (.int .i64 (a : Int)) := A4.out.cell 2; have y5 : w4.cell? ⟨hq, 5, none⟩ = some (.int .u32 (wrd X)) := A4.out.cell 5; clear t4)
                  | (go_at_call 23; refine (tr_burst w d r _ s [hq] k a X _ T4.out (by rw [PL.out]; exact hk) ha P4.out).mono ?_; rintro e w5 ⟨rfl, t5⟩; have T5 := Lib.hid t5.1; have A5 := Lib.hid (A4.out.same (t5.2.1 hq (by simp))); clear t5))
                all_goals
                  go_wp2
                  go_meet
                  case rel => exact ⟨rfl, d, s.burst k a X, rfl, by rw [burst_len]; exact PL.out, Nat.le_succ_of_le PW.out, Nat.le_succ_of_le PV.out, T5.out.less (fun y hy => by simp at hy)⟩
              · have bad : fi < 0 ∨ (s.blk.length : Int) ≤ fi ∨ fa < 0 ∨ 124 < fa ∨ s.wt ≠ [] := by
                  rw [PL.out]
                  by_cases h1 : s.wt = []
                  · have : ¬ (0 ≤ fi ∧ fi < (m : Int) ∧ 0 ≤ fa ∧ fa ≤ 124) := fun h2 => hok ⟨h2.1, h2.2.1, h2.2.2.1, h2.2.2.2, h1⟩
                    omega
                  · exact Or.inr (Or.inr (Or.inr (Or.inr h1)))
                have BAD := Lib.hid bad
                clear bad hok
                go_upto_region 24 with fail
                go_region_held_law (fun w' => w'.cell? ⟨hq, 1, none⟩ = some (.int .i64 fi) ∧ w'.cell? ⟨hq, 2, none⟩ = some (.int .i64 fa) ∧ w'.cell? ⟨hq, 5, none⟩ = some (.int .u32 (wrd X))) (first | go_keep | exact ⟨A4.out.cell 1, A4.out.cell 2, A4.out.cell 5⟩) (first
                  | (go_at_call 22; refine (td_unburst w d r s s [hq] fi fa X _ T2.out.drew i0 i1 a0 a1 BAD.out (by have := PW.out; omega)).mono ?_; rintro e w4 ⟨rfl, t4⟩; have A4 := Lib.hid (AQ.out.same (t4.2.1 hq (by simp))); have T4 := Lib.hid t4.1; have y1 : w4.cell? ⟨hq, 1, none⟩ = some (.int .i64 fi) := A4.out.cell 1; have y2 : w4.cell? ⟨hq, 2, none⟩ = some (.int .i64 fa) := A4.out.cell 2; have y5 : w4.cell? ⟨hq, 5, none⟩ = some (.int .u32 (wrd X)) := A4.out.cell 5; clear t4)
                  | (go_at_call 23; refine (tr_unburst w d r s s [hq] fi fa X _ T4.out i0 i1 a0 a1 BAD.out (by have := PW.out; omega)).mono ?_; rintro e w5 ⟨rfl, rfl⟩))
                all_goals
                  go_wp2
                  go_meet
                  case rel => exact ⟨rfl, d, s, rfl, PL.out, Nat.le_succ_of_le PW.out, Nat.le_succ_of_le PV.out, T4.out.less (fun y hy => by simp at hy)⟩
          have e5 : (kd == 5) = false := by simpa using k5
          by_cases k6 : kd = 6
          · subst k6
            as_aux_lemma =>
              go_wp2_with fail
              refine (td_twin w d r s s [hq] W2 T2.out (by have := PW.out; omega)).mono ?_
              rintro e w4 ⟨d', rfl, ⟨F, T, G, x1, x2, x3, x4, x5, x6, x7, x8, x9, x10⟩, b4, _⟩
              have TH : Hid (Three w w4 d d' r s s s) := Lib.hid ⟨⟨F, T, G, x1, x2, x3, x6, x4, x5, x7, x8, x9⟩, b4⟩
              clear x1 x2 x3 x4 x5 x6 x7 x8 x9 x10 b4
              have U77 := Lib.hid (u8_lit 77 (by decide))
              go_wp2_with fail
              refine (fill_any 77 U77.out w4).mono ?_
              rintro e w5 f5
              have TW := Lib.hid (three_write w d d' r s s s 77 U77.out e w4 w5 TH.out f5 (by have := PW.out; omega) (by have := PV.out; omega))
              obtain ⟨rfl, _, _⟩ := f5
              go_wp2_with fail
              refine TW.out.mono ?_
              rintro e w6 ⟨rfl, t6⟩
              have T6 := Lib.hid t6
              clear t6 TW TH
              go_wp2_with fail
              refine (three_boot w d d' r _ s s 1 (u8_lit 1 (by decide)) _ _ w6 T6.out (by have := says_write_len s (fillB 77); have := PW.out; omega)).mono ?_
              rintro e w7 ⟨rfl, t7⟩
              have T7 := Lib.hid t7.two
              clear t7 T6
              go_wp2
              go_meet
              case rel => exact ⟨rfl, d', s, rfl, PL.out, Nat.le_succ_of_le PW.out, Nat.le_succ_of_le PV.out, T7.out⟩
          have e6 : (kd == 6) = false := by simpa using k6
          go_wp2
          go_meet
          case rel => exact ⟨rfl, d, s, rfl, PL.out, Nat.le_succ_of_le PW.out, Nat.le_succ_of_le PV.out, T2.out.less (fun y hy => by simp at hy)⟩
        case rest =>
          obtain ⟨rfl, d', s', rfl, hP'⟩ := hcut
          have HP' := Lib.hid hP'
          clear hP' AQ T2 PL PW PV OKs
          as_aux_lemma =>
            obtain ⟨AA, cA, y2, y5, y6⟩ := HP'.out.two.cells
            obtain ⟨⟨F, G, z1, z2, z3, z4, z5, z6⟩, zb⟩ := id HP'.out.two
            have qw : ∀ n, Calls Try.prog 25 #[.pointer (some ⟨d', 0, none⟩)] (wc.drewN n) fun e w' => e = .returned (.int .i64 s'.wt.length) ∧ ∃ m, w' = (wc.drewN n).drewN m := fun n => disk_waits F d' s' _ (z1.stay (fun _ _ => rfl)) (by have := HP'.out.wt; omega)
            have qo : ∀ n, Calls Try.prog 26 #[.pointer (some ⟨d', 0, none⟩)] (wc.drewN n) fun e w' => e = .returned (.bool s'.off) ∧ ∃ m, w' = (wc.drewN n).drewN m := fun n => disk_off F d' s' _ (z1.stay (fun _ _ => rfl))
            have qv : ∀ n, Calls Try.prog 16 #[.pointer (some ⟨d', 0, none⟩)] (wc.drewN n) fun e w' => e = .returned (.int .i64 s'.wrote) ∧ ∃ m, w' = (wc.drewN n).drewN m := fun n => disk_wrote F d' s' _ (z1.stay (fun _ _ => rfl))
            have ql : ∀ n, Calls Try.prog 27 #[.pointer (some ⟨d', 0, none⟩)] (wc.drewN n) fun e w' => e = .returned (.int .i64 s'.blk.length) ∧ ∃ m, w' = (wc.drewN n).drewN m := fun n => disk_len F d' s' _ (z1.stay (fun _ _ => rfl))
            rw [HP'.out.len] at ql
            clear z1 z2 z3 z4 z5 z6 zb F G
            obtain ⟨qq, hqq⟩ : ∃ qq, qq = s'.wt.length := ⟨_, rfl⟩
            obtain ⟨of, hof⟩ : ∃ of, of = s'.off := ⟨_, rfl⟩
            obtain ⟨vv, hvv⟩ : ∃ vv, vv = s'.wrote := ⟨_, rfl⟩
            rw [← hqq] at qw y2
            rw [← hof] at qo y5
            rw [← hvv] at qv y6
            have QW := Lib.hid qw; have QO := Lib.hid qo; have QV := Lib.hid qv; have QL := Lib.hid ql
            clear qw qo qv ql hqq hof hvv
            have nb : (of != of) = false := by cases of <;> rfl
            go_upto_region 32 with fail
            go_quiet (first | (go_at_call 25; exact Calls.quiet_of (QW.out _)) | (go_at_call 26; exact Calls.quiet_of (QO.out _)) | (go_at_call 16; exact Calls.quiet_of (QV.out _)) | (go_at_call 27; exact Calls.quiet_of (QL.out _)))
            have PD := Lib.hid (PlayI.mk HP'.out.len HP'.out.wt HP'.out.wrote (HP'.out.two.drewN nq))
            clear HP' y2 y5 y6 QW QO QV QL
            generalize wc.drewN nq = w7 at *
            go_wp2
            go_loopw [4, 12, 13, 14, 15, 16] (fun _ kv _ _ _ _ wr => ∃ j : Nat, j ≤ 13 ∧ kv = .int .i64 ((j : Int) - 1) ∧ PlayI w wr d' r m (i + 1) s' []) (fun _ kv _ _ _ _ _ => 14 - (intOf kv + 1).toNat)
            case atStart => exact ⟨0, by omega, rfl, PD.out⟩
            case round =>
              obtain ⟨j, hj, rfl, hQ⟩ := hrel
              have HQ := Lib.hid hQ
              clear hQ PD
              by_cases hin : (j : Int) - 1 ≤ (m : Int) ∧ (j : Int) - 1 < 12
              · have t1' : decide ((j : Int) - 1 ≤ (m : Int)) = true := by rw [decide_eq_true_eq]; omega
                have t2' : decide ((j : Int) - 1 < 12) = true := by rw [decide_eq_true_eq]; omega
                by_cases hr9 : 1 ≤ j ∧ j ≤ m
                · obtain ⟨k, rfl⟩ : ∃ k : Nat, j = k + 1 := ⟨j - 1, by omega⟩
                  have hk : k < m := by omega
                  have ek : ((k + 1 : Nat) : Int) - 1 = (k : Int) := by omega
                  rw [ek] at t1' t2' ⊢
                  have EK := Lib.hid ek
                  clear ek
                  go_wp2_with fail
                  refine (td_read w d' r s' s' [] k wr HQ.out.two (by rw [HQ.out.len]; exact hk) (by have := HQ.out.wt; omega)).mono ?_
                  rintro e w8 ⟨t8, o8⟩
                  have T8 := Lib.hid t8.1
                  clear t8
                  cases hrd : s'.read k with
                  | some xs =>
                    rw [hrd] at o8
                    obtain ⟨g, c, rfl, og, _⟩ := o8
                    have OG := Lib.hid og
                    have HRD := Lib.hid hrd
                    clear og hrd
                    go_wp2_with fail
                    refine (tr_read w d' r s' s' [] k w8 T8.out (by rw [HQ.out.len]; exact hk) (by have := HQ.out.wt; omega)).mono ?_
                    rintro e w9 o9
                    rw [HRD.out] at o9
                    obtain ⟨g2, c2, rfl, oh, b9⟩ := o9
                    have OH := Lib.hid oh; have OG9 := Lib.hid (OG.out.below b9); have T9 := Lib.hid (T8.out.below b9)
                    have LX : Hid (xs.length = 128) := Lib.hid (Dk.read_blk T8.out.ok k (by rw [HQ.out.len]; exact hk) xs HRD.out).1
                    clear oh b9
                    go_wp2_with fail
                    refine (bsame_yes _ _ _ 128 c c2 xs w9 (by decide) LX.out OG9.out.reads OH.out.reads (Nat.le_refl _)).mono ?_
                    rintro e w10 ⟨rfl, b10⟩
                    have T10 := Lib.hid (T9.out.below b10)
                    clear b10
                    go_wp2
                    go_roundw
                    case rel => exact ⟨k + 2, by omega, by congr 1; omega, HQ.out.len, HQ.out.wt, HQ.out.wrote, T10.out⟩
                    case measure => simp [intOf]; omega
                  | none =>
                    rw [hrd] at o8
                    obtain rfl := o8
                    have HRD := Lib.hid hrd
                    clear hrd
                    go_wp2_with fail
                    refine (tr_read w d' r s' s' [] k w8 T8.out (by rw [HQ.out.len]; exact hk) (by have := HQ.out.wt; omega)).mono ?_
                    rintro e w9 o9
                    rw [HRD.out] at o9
                    obtain ⟨rfl, b9⟩ := o9
                    have T9 := Lib.hid (T8.out.below b9)
                    clear b9
                    go_wp2_with fail
                    refine (bsame_yes 0 none none 0 0 0 [] w9 (by decide) rfl (fun k hk => absurd hk (by simp)) (fun k hk => absurd hk (by simp)) (Nat.zero_le _)).mono ?_
                    rintro e w10 ⟨rfl, b10⟩
                    have T10 := Lib.hid (T9.out.below b10)
                    clear b10
                    go_wp2
                    go_roundw
                    case rel => exact ⟨k + 2, by omega, by congr 1; omega, HQ.out.len, HQ.out.wt, HQ.out.wrote, T10.out⟩
                    case measure => simp [intOf]; omega
                · have hout : (j : Int) - 1 < 0 ∨ (s'.blk.length : Int) ≤ (j : Int) - 1 := by rw [HQ.out.len]; omega
                  have HOUT := Lib.hid hout
                  clear hout hr9
                  go_wp2_with fail
                  refine (td_unread w d' r s' s' [] ((j : Int) - 1) wr HQ.out.two (by omega) (by omega) HOUT.out (by have := HQ.out.wt; omega)).mono ?_
                  rintro e w8 ⟨rfl, t8⟩
                  have T8 := Lib.hid t8.1
                  clear t8
                  go_wp2_with fail
                  refine (tr_unread w d' r s' s' [] ((j : Int) - 1) w8 T8.out (by omega) (by omega) HOUT.out).mono ?_
                  rintro e w9 ⟨rfl, rfl⟩
                  go_wp2_with fail
                  refine (bsame_yes 0 none none 0 0 0 [] _ (by decide) rfl (fun k hk => absurd hk (by simp)) (fun k hk => absurd hk (by simp)) (Nat.zero_le _)).mono ?_
                  rintro e w10 ⟨rfl, b10⟩
                  have T10 := Lib.hid (T8.out.below b10)
                  clear b10
                  go_wp2
                  go_roundw
                  case rel => exact ⟨j + 1, by omega, by congr 1; omega, HQ.out.len, HQ.out.wt, HQ.out.wrote, T10.out⟩
                  case measure => simp [intOf]; omega
              · go_upto_region 35 with fail
                go_cut [169] (fun v wd => v = .bool false ∧ wr = wd)
                case first =>
                  by_cases hin1 : (j : Int) - 1 ≤ (m : Int)
                  · have t1' : decide ((j : Int) - 1 ≤ (m : Int)) = true := by rw [decide_eq_true_eq]; omega
                    have t2' : decide ((j : Int) - 1 < 12) = false := by rw [decide_eq_false_iff_not]; omega
                    go_wp2
                    go_meet
                    case rel => exact ⟨rfl, rfl⟩
                  · have t1' : decide ((j : Int) - 1 ≤ (m : Int)) = false := by rw [decide_eq_false_iff_not]; omega
                    go_wp2
                    go_meet
                    case rel => exact ⟨rfl, rfl⟩
                case rest =>
                  obtain ⟨rfl, rfl⟩ := hcut
                  go_wp2
                  go_roundw
                  case rel => exact ⟨i + 1, d', s', by omega, by omega, by go_num, rfl, HQ.out⟩
                  case measure => simp [intOf]; omega
      · go_upto_region 5 with fail
        go_cut [37] (fun v wd => v = .bool false ∧ wr = wd)
        case first =>
          by_cases hlt1 : i < len
          · have t1 : decide ((i : Int) < (len : Int)) = true := by rw [decide_eq_true_eq]; omega
            have t2 : decide ((i : Int) < 40) = false := by rw [decide_eq_false_iff_not]; omega
            go_wp2
            go_meet
            case rel => exact ⟨rfl, rfl⟩
          · have t1 : decide ((i : Int) < (len : Int)) = false := by rw [decide_eq_false_iff_not]; omega
            go_wp2
            go_meet
            case rel => exact ⟨rfl, rfl⟩
        case rest =>
        obtain ⟨rfl, rfl⟩ := hcut
        go_wp2_with fail
        refine (druns_any wr).mono ?_
        rintro e w3 ⟨rfl, b3⟩
        have B3 := Lib.hid (bstep HP.out.two.2 b3)
        clear b3 HP
        go_wp2
        go_ret
        exact ⟨rfl, B3.out⟩
end Go.Proofs.Ytaehgpieichjkaa
