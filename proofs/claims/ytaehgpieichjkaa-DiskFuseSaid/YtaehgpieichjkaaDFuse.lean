/-
  DiskFuse, over the contracts of package disk.
-/
import Derived.Test.YtaehgpieichjkaaDRuns
import Derived.Test.YtaehgpieichjkaaBWithinI
import Derived.Test.YtaehgpieichjkaaDAsk
import Derived.Deep.DeepCutAuto
import Derived.Deep.RegionHeld3
import Derived.BigRegion
namespace Go.Proofs.Ytaehgpieichjkaa
set_option linter.unusedVariables false
set_option linter.unusedSimpArgs false
open Go.RowKit

namespace DU
/-- The disk behind i asks, with a fuse of l. -/
structure FuseI (l i : Nat) (s : Dk) : Prop where
  len : s.blk.length = 4
  bad : s.bad = List.replicate 4 false
  wt : s.wt.length ≤ i
  wrote : s.wrote ≤ i
  on : i ≤ l → s.off = false ∧ s.fuse = (l : Int) - (i : Int)
  off : l < i → s.off = true
theorem lands_bad (n : Nat) (l : List (Nat × List Int)) : ∀ s : Dk, s.bad = List.replicate n false → (s.lands l).bad = List.replicate n false := by
  induction l with
  | nil => intro s h; exact h
  | cons p r ih => intro s h; rw [Dk.lands_cons]; apply ih; unfold Dk.land; rw [h]; exact List.set_replicate_self
theorem start (l : Nat) : FuseI l 0 ((Dk.new 4).arm l) := by
  refine ⟨by unfold Dk.arm Dk.new; simp, rfl, Nat.le_refl _, Nat.le_refl _, fun _ => ⟨rfl, ?_⟩, fun h => by omega⟩
  show (if (l : Int) < -1 then (-1 : Int) else (l : Int)) = _
  rw [if_neg (by omega)]; omega
theorem FuseI.goes {l i : Nat} {s : Dk} (h : FuseI l i s) : s.goes = decide (i < l) := by
  unfold Dk.goes
  by_cases h1 : i < l
  · obtain ⟨o, f⟩ := h.on (by omega)
    have : s.fuse ≠ 0 := by omega
    simp [o, this, h1]
  · by_cases h2 : i = l
    · obtain ⟨o, f⟩ := h.on (by omega)
      have : s.fuse = 0 := by omega
      simp [this, h1]
    · have := h.off (by omega)
      simp [this, h1]
theorem FuseI.down {l i : Nat} {s : Dk} (h : FuseI l i s) (hl : l ≤ i) : FuseI l (i + 1) s.down :=
  ⟨h.len, h.bad, by have := h.wt; show s.wt.length ≤ _; omega, by have := h.wrote; show s.wrote ≤ _; omega, fun e => by omega, fun _ => rfl⟩
theorem FuseI.write {l i : Nat} {s : Dk} (h : FuseI l i s) (k : Nat) (b : List Int) : FuseI l (i + 1) (s.write k b) := by
  have g := h.goes
  unfold Dk.write
  by_cases h1 : i < l
  · rw [g, if_pos (by simpa using h1)]
    obtain ⟨o, f⟩ := h.on (by omega)
    refine ⟨h.len, h.bad, ?_, ?_, fun _ => ⟨o, ?_⟩, fun e => by omega⟩
    · have := h.wt; simp; exact this
    · have := h.wrote; show s.wrote + 1 ≤ _; omega
    · show (if 0 < s.fuse then s.fuse - 1 else s.fuse) = _; rw [if_pos (by omega)]; omega
  · rw [g, if_neg (by simpa using h1)]
    exact h.down (by omega)
theorem FuseI.flush {l i : Nat} {s : Dk} (h : FuseI l i s) : FuseI l (i + 1) s.flush := by
  have g := h.goes
  unfold Dk.flush
  by_cases h1 : i < l
  · rw [g, if_pos (by simpa using h1)]
    obtain ⟨o, f⟩ := h.on (by omega)
    obtain ⟨e1, e2, e3, e4, e5⟩ := s.burn.lands_same s.wt
    refine ⟨by rw [e5]; exact h.len, lands_bad 4 s.wt s.burn h.bad, Nat.zero_le _, ?_, fun _ => ⟨e3.trans o, ?_⟩, fun e => by omega⟩
    · have := h.wrote; show (s.burn.lands s.wt).wrote ≤ _; rw [e4]; show s.wrote ≤ _; omega
    · show (s.burn.lands s.wt).fuse = _; rw [e2]; show (if 0 < s.fuse then s.fuse - 1 else s.fuse) = _; rw [if_pos (by omega)]; omega
  · rw [g, if_neg (by simpa using h1)]
    exact h.down (by omega)
theorem FuseI.says {l i : Nat} {s : Dk} (h : FuseI l i s) : s.says = if i < l then 0 else 7 := by
  unfold Dk.says; rw [h.goes]
  by_cases h1 : i < l
  · simp [h1]
  · simp [h1]
theorem FuseI.read {l i : Nat} {s : Dk} (h : FuseI l i s) (hl : i ≤ l) : ∃ xs, s.read 0 = some xs := by
  unfold Dk.read
  rw [(h.on hl).1, h.bad]
  cases lastFor s.wt 0 with
  | some b => exact ⟨b, rfl⟩
  | none => exact ⟨_, rfl⟩
theorem FuseI.unread {l i : Nat} {s : Dk} (h : FuseI l i s) (hl : l < i) : s.read 0 = none := by
  unfold Dk.read
  rw [h.off hl]
  rfl
theorem FuseI.offB {l i : Nat} {s : Dk} (h : FuseI l i s) : s.off = decide (l < i) := by
  by_cases h1 : l < i
  · rw [h.off h1]; simp [h1]
  · rw [(h.on (by omega)).1]; simp [h1]
end DU

set_option maxRecDepth 100000 in
set_option maxHeartbeats 4000000 in
theorem dfuse_any (n : Int) (hn : I64 n) (A : Option Addr) (len cap : Nat) (f : Nat → AskD) (w : World) (hr : AskR w A len f) (hc : len ≤ cap) (hm : cap ≤ maxLen) :
    Calls Try.prog 6 #[.int .i64 n, .slice A len cap] w fun e w' => e = .returned (.bool true) ∧ Below w.heap.size w w' := by
  unfold maxLen at hm
  have HN := Lib.hid hn; have HR := Lib.hid hr
  have U1 := Lib.hid (u8_lit 1 (by decide))
  obtain ⟨n0, n1⟩ := id hn
  clear hn hr
  go_enter Try.func6, Try.ntmps6
  go_wp2_with fail
  refine (in_new 4 (by decide) (by decide) w).mono ?_
  rintro e w1 ⟨b, rfl, k1⟩
  have K1 := Lib.hid k1
  clear k1
  go_wp2_with fail
  refine (within_in n 0 12 HN.out (by decide) (by decide) (by decide) (by decide) w1).mono ?_
  rintro e w1' ⟨y, rfl, y0, y1, rfl⟩
  obtain ⟨l, rfl⟩ : ∃ k : Nat, y = (k : Int) := ⟨y.toNat, by omega⟩
  go_wp2_with fail
  refine (in_arm w b _ [] l w1 K1.out (by omega) (by omega)).mono ?_
  rintro e w2 ⟨rfl, t2⟩
  have K2 := Lib.hid t2.1
  clear t2 K1
  have S2 := Lib.hid (DU.start l)
  go_wp2
  go_loopw [4, 6, 7, 8, 9, 10, 11] (fun _ lv ov iv _ _ _ wr => ∃ (i : Nat) (s : Dk), i ≤ 30 ∧ i ≤ len ∧ iv = .int .i64 (i : Int) ∧ lv = .int .i64 ((l : Int) - (i : Int)) ∧ ov = .bool (decide (l < i)) ∧ DU.FuseI l i s ∧ DkIn w wr b s []) (fun _ _ _ iv _ _ _ _ => 30 - (intOf iv).toNat)
  case atStart => exact ⟨0, _, by omega, by omega, rfl, by simp, by simp, S2.out, K2.out⟩
  case round =>
    obtain ⟨i, s, hi, hil, rfl, rfl, rfl, hs, hd⟩ := hrel
    have HS := Lib.hid hs; have HD := Lib.hid hd
    clear hs hd
    by_cases hlt : i < len
    · by_cases h30 : i < 30
      · have t1 : decide ((i : Int) < (len : Int)) = true := by rw [decide_eq_true_eq]; omega
        have t2 : decide ((i : Int) < 30) = true := by rw [decide_eq_true_eq]; omega
        go_wp2_with fail
        refine (fill_any 1 U1.out wr).mono ?_
        rintro e w3 f3
        have K3 := Lib.hid (HD.out.below f3.2.2)
        obtain ⟨rfl, o3, _⟩ := f3
        clear o3 HD
        go_wp2_with fail
        refine (in_refuse w b s [] 4 128 128 _ w3 K3.out (by decide) (by decide) (by decide) (Or.inr (Or.inl (by rw [HS.out.len]; decide)))).mono ?_
        rintro e w4 ⟨rfl, t4⟩
        have K4 := Lib.hid t4.1
        clear t4 K3
        go_wp2_with fail
        refine (in_refuse w b s [] 0 0 0 none w4 K4.out (by decide) (by decide) (by decide) (Or.inr (Or.inr (by decide)))).mono ?_
        rintro e w5 ⟨rfl, t5⟩
        have K5 := Lib.hid t5.1
        clear t5 K4
        go_upto_region 13 with fail
        obtain ⟨bb, oo, rfl, hbb, c0, c1, _, _, c4, _, _, _, ⟨_, hii, _, _, hxx, _⟩, _⟩ := HR.out i hlt
        have z0 := K5.out.2.cell (p := ⟨bb, oo + i * 8, none⟩) hbb
        rw [c0] at z0
        have l1 : (i : Int) < (len : Int) := by omega
        have l0 : (0 : Int) ≤ (i : Int) := by omega
        generalize hkd : (f i).kind = kd at *
        go_upto_if 44 with fail
        obtain ⟨st, hst⟩ : ∃ st : Int, st = if i < l then 0 else 7 := ⟨_, rfl⟩
        have HST := Lib.hid hst
        clear hst
        go_cut [9] (fun v wd => v = .int .i64 st ∧ ∃ s', DU.FuseI l (i + 1) s' ∧ DkIn w wd b s' [])
        case first =>
          by_cases hkind : kd = 2
          · have tk : (kd == 2) = true := by simpa using hkind
            go_wp2_with fail
            refine (in_flush w b s [] w5 K5.out (by have := HS.out.wt; omega)).mono ?_
            rintro e w6 ⟨rfl, t6⟩
            rw [HS.out.says, ← HST.out]
            have K6 := Lib.hid t6.1
            go_wp2
            go_meet
            case rel => exact ⟨rfl, _, HS.out.flush, K6.out⟩
          · have tk : (kd == 2) = false := by simpa using hkind
            have z1 := K5.out.2.cell (p := ⟨bb, oo + i * 8 + 1, none⟩) hbb
            rw [c1] at z1
            have z4 := K5.out.2.cell (p := ⟨bb, oo + i * 8 + 4, none⟩) hbb
            rw [c4] at z4
            have HIi := Lib.hid hii
            have HXi := Lib.hid hxx
            clear hii hxx
            generalize (f i).i = fi at *
            generalize (f i).x = fx at *
            go_upto_region 15 with fail
            go_region_with (first
              | (go_at_call 29; refine (within_in fi 0 3 HIi.out (by decide) (by decide) (by decide) (by decide) _).mono ?_; rintro e m1 ⟨yy, rfl, yy0, yy1, rfl⟩; obtain ⟨kk, rfl⟩ : ∃ kk : Nat, yy = (kk : Int) := ⟨yy.toNat, by omega⟩)
              | (go_at_call 11; refine (fill_any fx HXi.out _).mono ?_; rintro e m2 f2; have K6 := Lib.hid (K5.out.drew.filled f2); obtain ⟨rfl, o6, _⟩ := f2; have O6 := Lib.hid o6; clear o6)
              | (go_at_call 10; refine (in_write w b s _ kk 128 _ _ _ K6.out (by rw [HS.out.len]; omega) (IsBlk.fill HXi.out) _ O6.out (by simp) (by have := HS.out.wt; omega) (by have := HS.out.wrote; omega)).mono ?_; rintro e m3 ⟨rfl, t7⟩; rw [HS.out.says, ← HST.out]; have K7 := Lib.hid t7.pop.1; clear t7))
            all_goals
              go_wp2
              go_meet
              case rel => exact ⟨rfl, _, HS.out.write _ _, K7.out⟩
        case rest =>
          obtain ⟨rfl, s', hs', hd'⟩ := hcut
          have HS' := Lib.hid hs'; have HD' := Lib.hid hd'
          clear hs' hd' HS K5
          rcases Nat.lt_trichotomy i l with hc1 | hc1 | hc1
          · have d1 : decide (l < i) = false := by rw [decide_eq_false_iff_not]; omega
            have d2 : ((l : Int) - (i : Int) == 0) = false := by simp; omega
            have d3 : decide (l < i + 1) = false := by rw [decide_eq_false_iff_not]; omega
            have e0 : st = 0 := by rw [HST.out]; rw [if_pos hc1]
            subst e0
            go_wp2_with fail
            refine (in_off w b s' [] wc HD'.out).mono ?_
            rintro e w6 ⟨rfl, t6⟩
            rw [HS'.out.offB, d3]
            have K6 := Lib.hid t6.1
            clear t6 HD'
            go_wp2_with fail
            obtain ⟨xs, hxs⟩ := HS'.out.read (by omega)
            refine (in_read w b s' [] 0 xs w6 K6.out (by rw [HS'.out.len]; decide) hxs (by have := HS'.out.wt; omega)).mono ?_
            rintro e w7 ⟨g, c, rfl, og, t7, _⟩
            have K7 := Lib.hid t7.1
            clear t7 og K6 hxs
            go_wp2
            go_roundw
            case rel => exact ⟨i + 1, s', by omega, by omega, by go_num, by congr 1; omega, by rw [d3], HS'.out, K7.out⟩
            case measure => simp [intOf]; omega
          · have d1 : decide (l < i) = false := by rw [decide_eq_false_iff_not]; omega
            have d2 : ((l : Int) - (i : Int) == 0) = true := by simp; omega
            have d3 : decide (l < i + 1) = true := by rw [decide_eq_true_eq]; omega
            have e0 : st = 7 := by rw [HST.out]; rw [if_neg (by omega)]
            subst e0
            go_wp2_with fail
            refine (in_off w b s' [] wc HD'.out).mono ?_
            rintro e w6 ⟨rfl, t6⟩
            rw [HS'.out.offB, d3]
            have K6 := Lib.hid t6.1
            clear t6 HD'
            go_wp2_with fail
            refine (in_unread w b s' [] 0 w6 K6.out (by decide) (by decide) (Or.inr (Or.inr (HS'.out.unread (by omega)))) (by have := HS'.out.wt; omega)).mono ?_
            rintro e w7 ⟨rfl, t7⟩
            have K7 := Lib.hid t7.1
            clear t7 K6
            go_wp2
            go_roundw
            case rel => exact ⟨i + 1, s', by omega, by omega, by go_num, by congr 1; omega, by rw [d3], HS'.out, K7.out⟩
            case measure => simp [intOf]; omega
          · have d1 : decide (l < i) = true := by rw [decide_eq_true_eq]; omega
            have d3 : decide (l < i + 1) = true := by rw [decide_eq_true_eq]; omega
            have e0 : st = 7 := by rw [HST.out]; rw [if_neg (by omega)]
            subst e0
            go_wp2_with fail
            refine (in_off w b s' [] wc HD'.out).mono ?_
            rintro e w6 ⟨rfl, t6⟩
            rw [HS'.out.offB, d3]
            have K6 := Lib.hid t6.1
            clear t6 HD'
            go_wp2_with fail
            refine (in_unread w b s' [] 0 w6 K6.out (by decide) (by decide) (Or.inr (Or.inr (HS'.out.unread (by omega)))) (by have := HS'.out.wt; omega)).mono ?_
            rintro e w7 ⟨rfl, t7⟩
            have K7 := Lib.hid t7.1
            clear t7 K6
            go_wp2
            go_roundw
            case rel => exact ⟨i + 1, s', by omega, by omega, by go_num, by congr 1; omega, by rw [d3], HS'.out, K7.out⟩
            case measure => simp [intOf]; omega
      · have t1 : decide ((i : Int) < (len : Int)) = true := by rw [decide_eq_true_eq]; omega
        have t2 : decide ((i : Int) < 30) = false := by rw [decide_eq_false_iff_not]; omega
        go_wp2_with fail
        refine (in_boot0 w b s [] wr HD.out (by have := HS.out.wt; omega)).mono ?_
        rintro e w6 ⟨rfl, t6⟩
        have K6 := Lib.hid t6.1
        have L6 : Hid ((s.boot []).blk.length = 4) := Lib.hid (by unfold Dk.boot; show (Dk.boots [] 0 s.wt s).blk.length = 4; rw [(Dk.boots_same [] s.wt 0 s).2.2]; exact HS.out.len)
        have W6 : Hid ((s.boot []).wrote ≤ 30) := Lib.hid (by unfold Dk.boot; show (Dk.boots [] 0 s.wt s).wrote ≤ 30; rw [(Dk.boots_same [] s.wt 0 s).2.1]; have := HS.out.wrote; omega)
        have o6 : (s.boot []).off = false := rfl
        have y6 : (s.boot []).says = 0 := rfl
        have n6 : (s.boot []).wt = [] := rfl
        have N6 := Lib.hid n6; have O6 := Lib.hid o6; have Y6 := Lib.hid y6
        clear t6 HD o6 y6 n6
        generalize s.boot [] = s9 at *
        go_wp2_with fail
        refine (in_off w b s9 [] w6 K6.out).mono ?_
        rintro e w7 ⟨rfl, t7⟩
        rw [O6.out]
        have K7 := Lib.hid t7.1
        clear t7 K6
        go_wp2_with fail
        refine (fill_any 1 U1.out w7).mono ?_
        rintro e w8 f8
        have K8 := Lib.hid (K7.out.filled f8)
        obtain ⟨rfl, o8, _⟩ := f8
        have O8 := Lib.hid o8
        clear o8 K7
        go_wp2_with fail
        refine (in_write w b s9 _ 0 128 _ _ w8 K8.out (by rw [L6.out]; decide) (IsBlk.fill U1.out) _ O8.out (by simp) (by rw [N6.out]; decide) (by have := W6.out; omega)).mono ?_
        rintro e w9 ⟨rfl, t9⟩
        rw [Y6.out]
        have B9 := Lib.hid t9.1.2
        clear t9 K8 O8
        go_wp2_with fail
        refine (druns_any w9).mono ?_
        rintro e w10 ⟨rfl, b10⟩
        have B10 := Lib.hid (bstep B9.out b10)
        clear b10 B9
        go_wp2
        go_ret
        exact ⟨rfl, B10.out⟩
    · have t1 : decide ((i : Int) < (len : Int)) = false := by rw [decide_eq_false_iff_not]; omega
      go_wp2_with fail
      refine (in_boot0 w b s [] wr HD.out (by have := HS.out.wt; omega)).mono ?_
      rintro e w6 ⟨rfl, t6⟩
      have K6 := Lib.hid t6.1
      have L6 : Hid ((s.boot []).blk.length = 4) := Lib.hid (by unfold Dk.boot; show (Dk.boots [] 0 s.wt s).blk.length = 4; rw [(Dk.boots_same [] s.wt 0 s).2.2]; exact HS.out.len)
      have W6 : Hid ((s.boot []).wrote ≤ 30) := Lib.hid (by unfold Dk.boot; show (Dk.boots [] 0 s.wt s).wrote ≤ 30; rw [(Dk.boots_same [] s.wt 0 s).2.1]; have := HS.out.wrote; omega)
      have o6 : (s.boot []).off = false := rfl
      have y6 : (s.boot []).says = 0 := rfl
      have n6 : (s.boot []).wt = [] := rfl
      have N6 := Lib.hid n6; have O6 := Lib.hid o6; have Y6 := Lib.hid y6
      clear t6 HD o6 y6 n6
      generalize s.boot [] = s9 at *
      go_wp2_with fail
      refine (in_off w b s9 [] w6 K6.out).mono ?_
      rintro e w7 ⟨rfl, t7⟩
      rw [O6.out]
      have K7 := Lib.hid t7.1
      clear t7 K6
      go_wp2_with fail
      refine (fill_any 1 U1.out w7).mono ?_
      rintro e w8 f8
      have K8 := Lib.hid (K7.out.filled f8)
      obtain ⟨rfl, o8, _⟩ := f8
      have O8 := Lib.hid o8
      clear o8 K7
      go_wp2_with fail
      refine (in_write w b s9 _ 0 128 _ _ w8 K8.out (by rw [L6.out]; decide) (IsBlk.fill U1.out) _ O8.out (by simp) (by rw [N6.out]; decide) (by have := W6.out; omega)).mono ?_
      rintro e w9 ⟨rfl, t9⟩
      rw [Y6.out]
      have B9 := Lib.hid t9.1.2
      clear t9 K8 O8
      go_wp2_with fail
      refine (druns_any w9).mono ?_
      rintro e w10 ⟨rfl, b10⟩
      have B10 := Lib.hid (bstep B9.out b10)
      clear b10 B9
      go_wp2
      go_ret
      exact ⟨rfl, B10.out⟩
end Go.Proofs.Ytaehgpieichjkaa
