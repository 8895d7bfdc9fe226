/-
  The program's disk: Flush.
  The program's disk: Boot.
-/
import Derived.Test.YtilmicekpclmbaaZf
import Derived.Test.YtilmicekpclmbaaZg
namespace Go.Proofs.Ytilmicekpclmbaa
set_option linter.unusedVariables false
set_option linter.unusedSimpArgs false
open Go.RowKit

theorem load_cells (b o n : Nat) (vs : List Value) (w : World) (hn : vs.length = n) (h : w.rangeAt b o vs) : (loadCellsFrom ⟨b, o, none⟩ 0 n #[]).run Try.prog w = .ok vs.toArray w := by
  subst hn
  exact run_loadCells_list (P := Try.prog) w ⟨b, o, none⟩ vs (fun j v hv => by rw [Addr.add_mid]; exact h j v hv)
theorem Try.zero_write' : (Try.prog.info? 117).map (fun i => (i.zero, i.size)) = some (some (.agg (Value.int .i64 0 :: vals (zeros 128)).toArray), 129) := by kernel_rfl
theorem zero_write_run : ∃ Z : Array Value, (∀ w, (zeroValue 117).run Try.prog w = .ok (.agg Z) w) ∧ Z.size = 129 :=
  ⟨_, (zero_of_info Try.zero_write').1, by simp [vals_length, zeros_length]⟩
theorem wrow_one (p : Nat × List Int) (v : Value) (h : v ∈ wrow p) : v.oneCell' = true := by
  unfold wrow at h
  rcases List.mem_cons.1 h with rfl | h
  · rfl
  · exact vals_one _ v h
theorem wrow_len (p : Nat × List Int) (h : IsBlk p.2) : (wrow p).length = 129 := by unfold wrow; rw [List.length_cons, vals_length, h.1]
/-- A new variable takes a whole write. -/
theorem store_new (w : World) (Z : Array Value) (hZ : Z.size = 129) (vs : List Value) (hv : vs.length = 129) (h1 : ∀ v ∈ vs, v.oneCell' = true) : (storeCells ⟨w.heap.size, 0, none⟩ vs 0).run Try.prog (w.alloc (.cells Z 117)) = .ok () (w.alloc (.cells vs.toArray 117)) := by
  have := run_storeCells_new (P := Try.prog) w 117 Z vs.toArray (by rw [Try.size_write]; simp [hv]) (by simp [hZ, hv]) (all_oneCell_toArray h1)
  exact this
theorem load_new (w : World) (vs : List Value) (hv : vs.length = 129) : (loadCellsFrom ⟨w.heap.size, 0, none⟩ 0 129 #[]).run Try.prog (w.alloc (.cells vs.toArray 117)) = .ok vs.toArray (w.alloc (.cells vs.toArray 117)) :=
  run_loadCellsFrom_new w 117 vs.toArray 129 (by simp [hv])
/-- Nothing waits. -/
theorem Lay.clear {w w' : World} {F : Nat → Prop} {b : Nat} {s s' : Dk} {g cb : Nat} {A : Option Addr} {c : Nat} (h : Lay w F b s g cb A c) (ok : s'.Ok) (hb : s'.blk = s.blk) (hd : s'.bad = s.bad) (hw : s'.wt = []) (hk : Keep (· = b) w w')
    (st : Arr w' b 69 (dkCells s' g cb none 0)) : Lay w' F b s' g cb none 0 where
  ok := ok
  st := st
  rb := by
    have e : bl s' = bl s := by unfold bl; rw [hb, hd]
    rw [e, hb]
    exact h.rb.same (fun a ha => hk.block _ (h.rb.lt a ha).2 (by injection ha with ha; subst ha; exact h.bg))
  rw' := by rw [hw]; exact RowN.nil _ _ _ _
  fb := h.fb
  fg := h.fg
  fA := fun a ha => (by cases ha)
  lt := fun j hj => Nat.lt_of_lt_of_le (h.lt j hj) hk.size
theorem Lay.alloc {w : World} {F : Nat → Prop} {b : Nat} {s : Dk} {g cb : Nat} {A : Option Addr} {c : Nat} (h : Lay w F b s g cb A c) (o : Obj) : Lay (w.alloc o) F b s g cb A c := h.stay (fun j hj => Below.heap_alloc _ _ _ (h.lt j hj))
/-- The k-th that waits, in memory. -/
theorem Lay.waiting {w : World} {F : Nat → Prop} {b : Nat} {s : Dk} {g cb : Nat} {A : Option Addr} {c : Nat} (h : Lay w F b s g cb A c) (k : Nat) (hk : k < s.wt.length) : ∃ ga, A = some ⟨ga, 0, none⟩ ∧ w.rangeAt ga (k * 129) (wrow (s.wt.getD k (0, []))) := by
  have hr := h.rw'
  obtain ⟨ga, e, _⟩ := hr.at (by omega)
  refine ⟨ga, e, ?_⟩
  subst e
  have := hr.range (wl_even (fun p hp => (h.ok.wts p hp).2)) (wl_len _) k hk
  rw [wl_getD _ _ hk] at this
  exact this
theorem wt_at {s : Dk} (h : s.Ok) (k : Nat) (hk : k < s.wt.length) : (s.wt.getD k (0, [])).1 < s.blk.length ∧ IsBlk (s.wt.getD k (0, [])).2 := h.wts _ (by rw [List.getD_eq_getElem?_getD, List.getElem?_eq_getElem hk]; exact List.getElem_mem _)

set_option maxRecDepth 100000 in
set_option maxHeartbeats 2000000 in
theorem flush_any (F : Nat → Prop) (b : Nat) (s : Dk) (g cb : Nat) (A : Option Addr) (c : Nat) (w : World) (h : Lay w F b s g cb A c) (hw : s.wt.length ≤ 1000000) :
    Calls Try.prog 46 #[.pointer (some ⟨b, 0, none⟩)] w fun e w' => e = .returned (.int .i64 s.says) ∧ Step F b s.flush w w' := by
  have rg := goes_any F b s g cb A c w h
  have H := Lib.hid h; have RG := Lib.hid rg
  clear h rg
  go_enter Try.func46, Try.ntmps46
  go_wp2_with fail
  refine RG.out.mono ?_
  rintro e w1 ⟨rfl, h1, k1⟩
  have c2 : w1.cell? ⟨b, 1, none⟩ = some (.slice A s.asked.wt.length c) := h1.st.cell 1
  have hq : s.asked.wt.length = s.wt.length := by unfold Dk.asked; split <;> rfl
  rw [hq] at c2
  clear hq
  have H1 := Lib.hid h1; have K1 := Lib.hid k1
  clear h1 k1
  cases hg : s.goes
  · have HG := Lib.hid hg
    have E1 : Hid (s.asked = s.flush) := Lib.hid (by rw [Dk.asked_no HG.out]; unfold Dk.flush; rw [if_neg (by rw [HG.out]; decide)])
    have E2 : Hid (s.says = 7) := Lib.hid (by unfold Dk.says; rw [if_neg (by rw [HG.out]; decide)])
    clear hg
    go_wp2
    go_ret
    refine ⟨by rw [E2.out]; rfl, F, ⟨g, cb, A, c, ?_⟩, K1.out, Sub.refl _ _⟩
    have := H1.out
    rw [E1.out] at this
    exact this
  · have HG := Lib.hid hg
    have E2 : Hid (s.says = 0) := Lib.hid (by unfold Dk.says; rw [if_pos HG.out])
    have S2 : Hid (Lay w1 F b (s.burn.lands (s.wt.take 0)) g cb A c) := Lib.hid (by have := H1.out; rw [Dk.asked_yes HG.out] at this; exact this)
    clear hg H1
    generalize hq : s.wt.length = q at *
    have HQ := Lib.hid hq
    clear hq
    obtain ⟨Z, hz, hzs⟩ := zero_write_run
    go_wp2
    go_loopw [4, 13] (fun _ kv wr => ∃ k : Nat, k ≤ q ∧ kv = .int .i64 (k : Int) ∧ Lay wr F b (s.burn.lands (s.wt.take k)) g cb A c ∧ Keep F w wr) (fun _ kv _ => q - (intOf kv).toNat)
    case atStart => exact ⟨0, Nat.zero_le _, rfl, S2.out, K1.out⟩
    case round =>
      obtain ⟨k, hk, rfl, h1, k1⟩ := hrel
      have H1 := Lib.hid h1; have K1 := Lib.hid k1
      have ew : Hid ((s.burn.lands (s.wt.take k)).wt = s.wt) := Lib.hid ((Dk.lands_same _ s.burn).1)
      have eb : Hid ((s.burn.lands (s.wt.take k)).blk.length = s.blk.length) := Lib.hid ((Dk.lands_same _ s.burn).2.2.2.2)
      clear h1 k1
      by_cases hlt : k < q
      · have i1 : decide ((k : Int) < (q : Int)) = true := by rw [decide_eq_true_eq]; omega
        have i2 : (k : Int) < (q : Int) := by omega
        obtain ⟨ga, rfl, hr⟩ := H1.out.waiting k (by rw [ew.out, HQ.out]; exact hlt)
        rw [ew.out] at hr
        have hwt := wt_at H.out.ok k (by rw [HQ.out]; exact hlt)
        have st := store_new wr Z hzs _ (wrow_len _ hwt.2) (wrow_one _)
        have PU := Lib.hid (put_any F b _ g cb _ c (s.wt.getD k (0, [])) _ (H1.out.alloc (.cells (wrow (s.wt.getD k (0, []))).toArray 117)) (by rw [eb.out]; exact hwt.1) hwt.2)
        have hi : (Try.prog.info? 117).map (·.size) = some (wrow (s.wt.getD k (0, []))).length := by rw [wrow_len _ hwt.2]; exact Try.size_write
        have hn : (wr.alloc (.cells (wrow (s.wt.getD k (0, []))).toArray 117)).rangeAt wr.heap.size 0 (wrow (s.wt.getD k (0, []))) := fun j v hv => by
          rw [cell_of_row _ _ _ _ _ _ (heap_alloc_new wr _), Nat.zero_add]
          simpa using hv
        have HN := Lib.hid hn; have HI := Lib.hid hi; have HR := Lib.hid hr
        have hvl := wrow_len _ hwt.2
        clear hr hwt hn hi
        generalize wrow (s.wt.getD k (0, [])) = V at *
        go_wp2_with (first | with_reducible refine wpList_load_mid rfl _ _ rfl ga (k * 129) rfl V _ HR.out Try.underlying117 rfl HI.out ?_ | with_reducible refine wpList_load_mid rfl _ _ rfl wr.heap.size 0 rfl V _ HN.out Try.underlying117 rfl HI.out ?_)
        refine PU.out.mono ?_
        rintro e w2 ⟨rfl, h2, k2⟩
        have H2 : Hid (Lay w2 F b (s.burn.lands (s.wt.take (k + 1))) g cb (some ⟨ga, 0, none⟩) c) := Lib.hid (by
          rw [take_next _ _ (0, []) (by rw [HQ.out]; exact hlt), Dk.lands_snoc]
          exact h2)
        have K2 : Hid (Keep F w w2) := Lib.hid (K1.out.trans (Sub.refl _ _) (((Keep.refl F wr).alloc _).trans (Sub.refl _ _) k2))
        clear h2 k2
        go_wp2
        go_roundw
        case rel => exact ⟨k + 1, by omega, by go_num, H2.out, K2.out⟩
        case measure => simp [intOf]; omega
      · obtain rfl : k = q := by omega
        have i1 : decide ((k : Int) < (k : Int)) = false := by simp
        have hst := H1.out.st
        have z1 := hst.frozen 1
        have y1 : wr.cell? ⟨b, 1, none⟩ = some (.slice A (s.burn.lands (s.wt.take k)).wt.length c) := hst.cell 1
        have HT := Lib.hid hst
        clear hst
        have E3 : Hid ({ s.burn.lands (s.wt.take k) with wt := [] } = s.flush) := Lib.hid (by rw [List.take_of_length_le (by rw [HQ.out]; exact Nat.le_refl _)]; unfold Dk.flush; rw [if_pos HG.out])
        have OKF := Lib.hid H.out.ok.flush
        generalize s.burn.lands (s.wt.take k) = t1 at *
        go_wp2
        go_ret
        refine ⟨by rw [E2.out]; rfl, F, ⟨g, cb, none, 0, ?_⟩, K1.out.setCell (a := ⟨b, 1, none⟩) H.out.fb _, Sub.refl _ _⟩
        rw [← E3.out]
        refine H1.out.clear (by rw [E3.out]; exact OKF.out) rfl rfl rfl ((Keep.refl (· = b) wr).setCell (a := ⟨b, 1, none⟩) rfl _) ?_
        exact HT.out.set 1 (.slice none 0 0)
end Go.Proofs.Ytilmicekpclmbaa
namespace Go.Proofs.Ytilmicekpclmbaa
set_option linter.unusedVariables false
set_option linter.unusedSimpArgs false
open Go.RowKit

theorem Dk.boots_idle (how : List Int) : ∀ (l : List (Nat × List Int)) (k : Nat) (s : Dk), how.length ≤ k → Dk.boots how k l s = s
  | [], _, _, _ => rfl
  | p :: r, k, s, h => by
    show Dk.boots how (k + 1) r (s.bootOne p (how.getD k 0)) = s
    have e : s.bootOne p (how.getD k 0) = s := by
      rw [List.getD_eq_getElem?_getD, List.getElem?_eq_none h]
      unfold Dk.bootOne
      rfl
    rw [e, Dk.boots_idle how r (k + 1) s (by omega)]
theorem Dk.boots_take (how : List Int) : ∀ (l : List (Nat × List Int)) (k m : Nat) (s : Dk), how.length ≤ k + m ∨ l.length ≤ m → Dk.boots how k (l.take m) s = Dk.boots how k l s
  | [], _, _, _, _ => by simp
  | p :: r, k, 0, s, h => by
    rw [List.take_zero, Dk.boots_idle how (p :: r) k s (by rcases h with h | h; omega; simp at h)]
    rfl
  | p :: r, k, m + 1, s, h => by
    rw [List.take_succ_cons]
    exact Dk.boots_take how r (k + 1) m _ (by rcases h with h | h; exact Or.inl (by omega); exact Or.inr (by simpa using h))
/-- A block is torn. -/
theorem Lay.torn {w : World} {F : Nat → Prop} {b : Nat} {s : Dk} {g cb : Nat} {A : Option Addr} {c : Nat} (h : Lay w F b s g cb A c) (i : Nat) (hi : i < s.blk.length) : Lay (w.setCell ⟨g, i * 129 + 128, none⟩ (.bool true)) F b (s.tear i) g cb A c where
  ok := h.ok.tear i
  st := h.st.same (Below.heap_setCell _ _ _ _ (fun e => h.bg e.symm))
  rb := by
    have h2 := h.rb.set (i * 129 + 128) (.bool true)
    rw [(bl_even h.ok).put i 128 _ (by rw [bl_len h.ok]; exact hi) (by decide), bl_getD h.ok i hi] at h2
    have e : (vals (s.blk.getD i []) ++ [Value.bool (s.bad.getD i false)]).set 128 (.bool true) = vals (s.blk.getD i []) ++ [Value.bool true] := by
      rw [List.set_append_right _ _ (by rw [vals_length, (h.ok.blks i hi).1]; exact Nat.le_refl _), vals_length, (h.ok.blks i hi).1]
      rfl
    rw [e, ← bl_tear h.ok i hi] at h2
    exact h2
  rw' := h.rw'.other h.gA _
  fb := h.fb
  fg := h.fg
  fA := h.fA
  lt := fun j hj => by rw [setCell_size]; exact h.lt j hj

end Go.Proofs.Ytilmicekpclmbaa
