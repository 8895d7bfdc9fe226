/-
  The program's disk: Boot.
-/
import Derived.Test.YtaehgpieichjkaaDAd
namespace Go.Proofs.Ytaehgpieichjkaa
set_option linter.unusedVariables false
set_option linter.unusedSimpArgs false
open Go.RowKit

theorem Dk.boots_idle (how : List Int) : ∀ (l : List (Nat × List Int)) (k : Nat) (s : Dk), how.length ≤ k → Dk.boots how k l s = s
  | [], _, _, _ => rfl
  | p :: r, k, s, h => by
    show Dk.boots how (k + 1) r (s.bootOne p (how.getD k 0)) = s
    have e : s.bootOne p (how.getD k 0) = s := by
      rw [List.getD_eq_getElem?_getD, List.getElem?_eq_none h]
      unfold Dk.bootOne
      rfl
    rw [e, Dk.boots_idle how r (k + 1) s (by omega)]
theorem Dk.boots_take (how : List Int) : ∀ (l : List (Nat × List Int)) (k m : Nat) (s : Dk), how.length ≤ k + m ∨ l.length ≤ m → Dk.boots how k (l.take m) s = Dk.boots how k l s
  | [], _, _, _, _ => by simp
  | p :: r, k, 0, s, h => by
    rw [List.take_zero, Dk.boots_idle how (p :: r) k s (by rcases h with h | h; omega; simp at h)]
    rfl
  | p :: r, k, m + 1, s, h => by
    rw [List.take_succ_cons]
    exact Dk.boots_take how r (k + 1) m _ (by rcases h with h | h; exact Or.inl (by omega); exact Or.inr (by simpa using h))
/-- A block is torn. -/
theorem Lay.torn {w : World} {F : Nat → Prop} {b : Nat} {s : Dk} {g cb : Nat} {A : Option Addr} {c : Nat} (h : Lay w F b s g cb A c) (i : Nat) (hi : i < s.blk.length) : Lay (w.setCell ⟨g, i * 129 + 128, none⟩ (.bool true)) F b (s.tear i) g cb A c where
  ok := h.ok.tear i
  st := h.st.same (Below.heap_setCell _ _ _ _ (fun e => h.bg e.symm))
  rb := by
    have h2 := h.rb.set (i * 129 + 128) (.bool true)
    rw [(bl_even h.ok).put i 128 _ (by rw [bl_len h.ok]; exact hi) (by decide), bl_getD h.ok i hi] at h2
    have e : (vals (s.blk.getD i []) ++ [Value.bool (s.bad.getD i false)]).set 128 (.bool true) = vals (s.blk.getD i []) ++ [Value.bool true] := by
      rw [List.set_append_right _ _ (by rw [vals_length, (h.ok.blks i hi).1]; exact Nat.le_refl _), vals_length, (h.ok.blks i hi).1]
      rfl
    rw [e, ← bl_tear h.ok i hi] at h2
    exact h2
  rw' := h.rw'.other h.gA _
  fb := h.fb
  fg := h.fg
  fA := h.fA
  lt := fun j hj => by rw [setCell_size]; exact h.lt j hj

set_option maxRecDepth 100000 in
set_option maxHeartbeats 4000000 in
theorem boot_any (F : Nat → Prop) (b : Nat) (s : Dk) (g cb : Nat) (A : Option Addr) (c : Nat) (n cn N : Nat) (B : Option Addr) (how : List Int) (w : World) (h : Lay w F b s g cb A c) (hl : how.length = n) (hm : n ≤ maxLen) (hr : RdB w N B how) (hN : N ≤ w.heap.size) (hA : ∀ a, B = some a → 0 < n → ¬ F a.block) (hw : s.wt.length ≤ 1000000) :
    Calls Try.prog 12 #[.pointer (some ⟨b, 0, none⟩), .slice B n cn] w fun e w' => e = .returned (.tuple #[]) ∧ Step F b (s.boot how) w w' := by
  unfold maxLen at hm
  have c1 : w.cell? ⟨b, 1, none⟩ = some (.slice A s.wt.length c) := h.st.cell 1
  have cp := h.rw'.cap
  unfold maxLen at cp
  have S2 : Hid (Lay w.drew F b (Dk.boots how 0 (s.wt.take 0) s) g cb A c) := Lib.hid (h.stay (fun _ _ => rfl))
  have H := Lib.hid h; have HL := Lib.hid hl; have HRD := Lib.hid hr; have HA := Lib.hid hA
  clear h hl hr hA
  generalize hq : s.wt.length = q at *
  have HQ := Lib.hid hq
  clear hq
  obtain ⟨mn, hmn⟩ : ∃ mn : Nat, mn = min q n := ⟨_, rfl⟩
  have e1 : min (q : Int) (n : Int) = (mn : Int) := by omega
  have e2 : mn ≤ q := by omega
  have e3 : mn ≤ n := by omega
  have e4 : (0 : Int) ≤ (mn : Int) := by omega
  have e5 : (mn : Int) ≤ (c : Int) := by omega
  have EE : Hid (n ≤ mn ∨ q ≤ mn) := Lib.hid (by omega)
  clear hmn
  obtain ⟨Z, hz, hzs⟩ := zero_write_run
  go_enter Try.func12, Try.ntmps12
  go_wp2_with fail
  go_region_held_law (fun w' => w'.cell? ⟨b, 1, none⟩ = some (.slice A q c)) (exact c1) (fail)
  go_wp2
  go_loopw [4, 5, 20] (fun _ _ kv wr => ∃ k : Nat, k ≤ mn ∧ kv = .int .i64 (k : Int) ∧ Lay wr F b (Dk.boots how 0 (s.wt.take k) s) g cb A c ∧ Keep F w wr) (fun _ _ kv _ => mn - (intOf kv).toNat)
  case atStart => exact ⟨0, Nat.zero_le _, rfl, S2.out, (Keep.refl F w).drew⟩
  case round =>
    obtain ⟨k, hk, rfl, h1, k1⟩ := hrel
    have H1 := Lib.hid h1; have K1 := Lib.hid k1
    have ew : Hid ((Dk.boots how 0 (s.wt.take k) s).wt = s.wt) := Lib.hid ((Dk.boots_same how _ 0 s).1)
    have eb : Hid ((Dk.boots how 0 (s.wt.take k) s).blk.length = s.blk.length) := Lib.hid ((Dk.boots_same how _ 0 s).2.2)
    clear h1 k1 S2 c1
    by_cases hlt : k < mn
    · have i1 : decide ((k : Int) < (mn : Int)) = true := by rw [decide_eq_true_eq]; omega
      have i2 : (k : Int) < (mn : Int) := by omega
      have i3 : (k : Int) < (n : Int) := by omega
      have hkq : Hid (k < s.wt.length) := Lib.hid (by rw [HQ.out]; omega)
      have NX : Hid (Dk.boots how 0 (s.wt.take (k + 1)) s = (Dk.boots how 0 (s.wt.take k) s).bootOne (s.wt.getD k (0, [])) (how.getD k 0)) := Lib.hid (by
        rw [take_next _ _ (0, []) hkq.out, Dk.boots_snoc, Nat.zero_add, List.length_take, Nat.min_eq_left (by have := hkq.out; omega)])
      obtain ⟨ga, rfl, hr⟩ := H1.out.waiting k (by rw [ew.out]; exact hkq.out)
      rw [ew.out] at hr
      have hwt := wt_at H.out.ok k hkq.out
      have st := store_new wr Z hzs _ (wrow_len _ hwt.2) (wrow_one _)
      have hi : (Try.prog.info? 65).map (·.size) = some (wrow (s.wt.getD k (0, []))).length := by rw [wrow_len _ hwt.2]; exact Try.size_write
      have hn : (wr.alloc (.cells (wrow (s.wt.getD k (0, []))).toArray 65)).rangeAt wr.heap.size 0 (wrow (s.wt.getD k (0, []))) := fun j v hv => by
        rw [cell_of_row _ _ _ _ _ _ (heap_alloc_new wr _), Nat.zero_add]
        simpa using hv
      have h0 : (wr.alloc (.cells (wrow (s.wt.getD k (0, []))).toArray 65)).cell? ⟨wr.heap.size, 0, none⟩ = some (.int .i64 ((s.wt.getD k (0, [])).1 : Int)) := hn 0 _ rfl
      have H2 := Lib.hid (H1.out.alloc (.cells (wrow (s.wt.getD k (0, []))).toArray 65))
      have K2 : Hid (Keep F w (wr.alloc (.cells (wrow (s.wt.getD k (0, []))).toArray 65))) := Lib.hid (K1.out.alloc _)
      have PU := Lib.hid (put_any F b _ g cb _ c (s.wt.getD k (0, [])) _ H2.out (by rw [eb.out]; exact hwt.1) hwt.2)
      have rd := K2.out.rdF HRD.out hN (fun a ha => HA.out a ha (by omega))
      obtain ⟨b9, o9, rfl, hb9, c9, u9, u9'⟩ := rd k (by rw [HL.out]; omega)
      clear rd
      have hvl := wrow_len _ hwt.2
      have HI := Lib.hid hi; have HR := Lib.hid hr; have HN := Lib.hid hn; have HWT := Lib.hid hwt; have H0 := Lib.hid h0
      clear hi hr hn hwt h0
      obtain ⟨y, hy⟩ : ∃ y, y = how.getD k 0 := ⟨_, rfl⟩
      have HY := Lib.hid hy
      rw [← hy] at c9 u9 u9'
      clear hy
      obtain ⟨cc, hcc⟩ : ∃ cc, y % 3 = cc := ⟨_, rfl⟩
      have HC := Lib.hid hcc
      have c012 : cc = 1 ∨ cc = 2 ∨ cc = 0 := by omega
      obtain ⟨V, hv⟩ : ∃ V, wrow (s.wt.getD k (0, [])) = V := ⟨_, rfl⟩
      rw [hv] at st HI HR HN PU H2 K2 H0 hvl c9
      rcases c012 with rfl | rfl | rfl
      · have NX2 : Hid (Dk.boots how 0 (s.wt.take (k + 1)) s = (Dk.boots how 0 (s.wt.take k) s).land (s.wt.getD k (0, []))) := Lib.hid (by rw [NX.out]; unfold Dk.bootOne; rw [← HY.out, if_pos HC.out])
        go_wp2_with (first | with_reducible refine wpList_load_mid rfl _ _ rfl ga (k * 129) rfl V _ HR.out Try.underlying65 rfl HI.out ?_ | with_reducible refine wpList_load_mid rfl _ _ rfl wr.heap.size 0 rfl V _ HN.out Try.underlying65 rfl HI.out ?_)
        refine PU.out.mono ?_
        rintro e w2 ⟨rfl, h2, k2⟩
        rw [← NX2.out] at h2
        have H3 := Lib.hid h2
        have K3 : Hid (Keep F w w2) := Lib.hid (K2.out.trans (Sub.refl _ _) k2)
        clear h2 k2
        go_wp2
        go_roundw
        case rel => exact ⟨k + 1, by omega, by go_num, H3.out, K3.out⟩
        case measure => simp [intOf]; omega
      · have NX2 : Hid (Dk.boots how 0 (s.wt.take (k + 1)) s = (Dk.boots how 0 (s.wt.take k) s).tear (s.wt.getD k (0, [])).1) := Lib.hid (by rw [NX.out]; unfold Dk.bootOne; rw [← HY.out, if_neg (by rw [HC.out]; decide), if_pos HC.out])
        go_wp2_with (first | with_reducible refine wpList_load_mid rfl _ _ rfl ga (k * 129) rfl V _ HR.out Try.underlying65 rfl HI.out ?_ | with_reducible refine wpList_load_mid rfl _ _ rfl wr.heap.size 0 rfl V _ HN.out Try.underlying65 rfl HI.out ?_)
        have TR := Lib.hid (H2.out.torn _ (by rw [eb.out]; exact HWT.out.1))
        have KT := Lib.hid (K2.out.setCell (a := ⟨g, (s.wt.getD k (0, [])).1 * 129 + 128, none⟩) H.out.fg (.bool true))
        have m0 : (wr.alloc (.cells V.toArray 65)).cell? ⟨b, 0, none⟩ = some (.slice (some ⟨g, 0, none⟩) (Dk.boots how 0 (s.wt.take k) s).blk.length cb) := H2.out.st.cell 0
        have th := H2.out.rb.there (bl_even H2.out.ok) (bl_len H2.out.ok) (s.wt.getD k (0, [])).1 (by rw [eb.out]; exact HWT.out.1) 128 (by decide)
        obtain ⟨th1, th2⟩ := th
        obtain ⟨ov, th1⟩ := Option.isSome_iff_exists.1 th1
        rw [← NX2.out] at TR
        have h0 := H0.out
        have j0 : ((s.wt.getD k (0, [])).1 : Int) < ((Dk.boots how 0 (s.wt.take k) s).blk.length : Int) := by rw [eb.out]; have := HWT.out.1; omega
        have n2 := H2.out.ok.n2
        generalize (s.wt.getD k (0, [])).1 = a at *
        generalize (Dk.boots how 0 (s.wt.take k) s).blk.length = m at *
        generalize wr.alloc (.cells V.toArray 65) = w2 at *
        go_region
        all_goals
          go_wp2
          go_roundw
          case rel => exact ⟨k + 1, by omega, by go_num, TR.out.stay (fun _ _ => rfl), KT.out.drew⟩
          case measure => simp [intOf]; omega
      · have NX2 : Hid (Dk.boots how 0 (s.wt.take (k + 1)) s = Dk.boots how 0 (s.wt.take k) s) := Lib.hid (by rw [NX.out]; unfold Dk.bootOne; rw [← HY.out, if_neg (by rw [HC.out]; decide), if_neg (by rw [HC.out]; decide)])
        go_wp2_with (first | with_reducible refine wpList_load_mid rfl _ _ rfl ga (k * 129) rfl V _ HR.out Try.underlying65 rfl HI.out ?_ | with_reducible refine wpList_load_mid rfl _ _ rfl wr.heap.size 0 rfl V _ HN.out Try.underlying65 rfl HI.out ?_)
        go_roundw
        case rel => exact ⟨k + 1, by omega, by go_num, by rw [NX2.out]; exact H2.out, K2.out⟩
        case measure => simp [intOf]; omega
    · obtain rfl : k = mn := by omega
      have i1 : decide ((k : Int) < (k : Int)) = false := by simp
      have hst := H1.out.st
      have z1 := hst.frozen 1
      have z2 := hst.frozen 2
      have z3 := hst.frozen 3
      have y1 : wr.cell? ⟨b, 1, none⟩ = some (.slice A (Dk.boots how 0 (s.wt.take k) s).wt.length c) := hst.cell 1
      have y2 : wr.cell? ⟨b, 2, none⟩ = some (.int .i64 (Dk.boots how 0 (s.wt.take k) s).fuse) := hst.cell 2
      have y3 : wr.cell? ⟨b, 3, none⟩ = some (.bool (Dk.boots how 0 (s.wt.take k) s).off) := hst.cell 3
      have HT := Lib.hid hst
      clear hst
      have E3 : Hid ({ Dk.boots how 0 (s.wt.take k) s with wt := [], fuse := -1, off := false } = s.boot how) := Lib.hid (by
        rw [Dk.boots_take how s.wt 0 k s (by rw [HL.out, HQ.out, Nat.zero_add]; exact EE.out)]; rfl)
      have OKF := Lib.hid (H.out.ok.boot how)
      generalize Dk.boots how 0 (s.wt.take k) s = t1 at *
      go_wp2
      go_end0
      refine ⟨rfl, F, ⟨g, cb, none, 0, ?_⟩, ((K1.out.setCell (a := ⟨b, 1, none⟩) H.out.fb _).setCell (a := ⟨b, 3, none⟩) H.out.fb _).setCell (a := ⟨b, 2, none⟩) H.out.fb _, Sub.refl _ _⟩
      rw [← E3.out]
      refine H1.out.clear (by rw [E3.out]; exact OKF.out) rfl rfl rfl ((((Keep.refl (· = b) wr).setCell (a := ⟨b, 1, none⟩) rfl _).setCell (a := ⟨b, 3, none⟩) rfl _).setCell (a := ⟨b, 2, none⟩) rfl _) ?_
      exact ((HT.out.set 1 (.slice none 0 0)).set 3 (.bool false)).set 2 (.int .i64 (-1))
end Go.Proofs.Ytaehgpieichjkaa
