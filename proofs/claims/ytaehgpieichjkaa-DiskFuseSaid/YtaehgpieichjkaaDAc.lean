/-
  The program's disk: put.
-/
import Derived.Test.YtaehgpieichjkaaDAb
namespace Go.Proofs.Ytaehgpieichjkaa
set_option linter.unusedVariables false
set_option linter.unusedSimpArgs false
open Go.RowKit

/-- A write lands in its block. -/
theorem Lay.landed {w : World} {F : Nat → Prop} {b : Nat} {s : Dk} {g cb : Nat} {A : Option Addr} {c : Nat} (h : Lay w F b s g cb A c) (p : Nat × List Int) (hi : p.1 < s.blk.length) (hx : IsBlk p.2) (w' : World) (hk : Keep (fun _ => False) w w') :
    Lay (w'.setCells g (p.1 * 129) (vals p.2 ++ [Value.bool false])) F b (s.land p) g cb A c where
  ok := h.ok.land p hx
  st := by
    have e : dkCells (s.land p) g cb A c = dkCells s g cb A c := by unfold dkCells; rw [s.land_len]; rfl
    rw [e]
    exact h.st.same (by rw [heap_setCells _ _ (fun e => h.bg e.symm), hk.block _ h.st.lt (fun e => e)])
  rb := by
    have h1 : RowN w' 0 68 129 (some ⟨g, 0, none⟩) s.blk.length cb (bl s).flatten := h.rb.same (fun a ha => hk.block _ (h.rb.lt a ha).2 (fun e => e))
    have h2 := RowN.puts (vals p.2 ++ [Value.bool false]) (p.1 * 129) h1
    rw [(bl_even h.ok).whole p.1 _ (by rw [bl_len h.ok]; exact hi) (by rw [List.length_append, vals_length, hx.1]; rfl), ← bl_land h.ok p hi] at h2
    rw [s.land_len]
    exact h2
  rw' := h.rw'.same (fun a ha => by rw [heap_setCells _ _ (h.gA a ha), hk.block _ (h.rw'.lt a ha).2 (fun e => e)])
  fb := h.fb
  fg := h.fg
  fA := h.fA
  lt := fun j hj => by rw [size_setCells]; exact Nat.lt_of_lt_of_le (h.lt j hj) hk.size
theorem run_store_block (D : List Value) (b o : Nat) (w : World) (h : D.length = 128) (h1 : ∀ v ∈ D, v.oneCell' = true) (ht : w.there b o 129) : (Instr.storeAt 68 (.pointer (some ⟨b, o, none⟩)) (.agg (D ++ [Value.bool false]).toArray)).run Try.prog w = .ok () (w.setCells b o (D ++ [Value.bool false])) := by
  have hl : (D ++ [Value.bool false]).toArray.size = 129 := by simp [h]
  have := run_storeAt_mid (P := Try.prog) w b o 68 (D ++ [Value.bool false]).toArray (by rw [hl]; exact ht) (by rw [hl]; exact Try.size_block) (all_oneCell_toArray (fun v hv => by
    rcases List.mem_append.1 hv with hv | hv
    · exact h1 v hv
    · rw [List.mem_singleton] at hv; subst hv; rfl))
  exact this
theorem Try.zero_block' : (Try.prog.info? 68).map (fun i => (i.zero, i.size)) = some (some (.agg (vals (zeros 128) ++ [Value.bool false]).toArray), 129) := by kernel_rfl
theorem zero_block_run : ∃ Z : Array Value, (∀ w, (zeroValue 68).run Try.prog w = .ok (.agg Z) w) ∧ Z.size = 129 ∧ ∀ D : List Value, D.length = 128 → List.foldl (fun (cs : Array Value) (x : Value × Nat) => cs.setIfInBounds x.2 x.1) Z D.zipIdx = (D ++ [Value.bool false]).toArray :=
  ⟨_, (zero_of_info Try.zero_block').1, by simp [vals_length, zeros_length], fun D hD => by rw [fill_fold, List.toList_toArray, putAll_front _ _ _ (by rw [hD, vals_length, zeros_length])]⟩
attribute [local go_sem ↓] Go.wp_at_zero Go.wp_at_succ

theorem store_cells (b o : Nat) (vs : List Value) (w : World) (ht : w.there b o vs.length) (h1 : ∀ v ∈ vs, v.oneCell' = true) : (storeCells ⟨b, o, none⟩ vs 0).run Try.prog w = .ok () (w.setCells b o vs) := by
  have := run_storeCells_cells (P := Try.prog) b o vs 0 w (fun j hj => by simpa using (ht j hj).1) (fun j hj => by simpa using (ht j hj).2) h1
  exact this
set_option maxRecDepth 100000 in
set_option maxHeartbeats 1000000 in
theorem put_any (F : Nat → Prop) (b : Nat) (s : Dk) (g cb : Nat) (A : Option Addr) (c : Nat) (p : Nat × List Int) (w : World) (h : Lay w F b s g cb A c) (hi : p.1 < s.blk.length) (hx : IsBlk p.2) :
    Calls Try.prog 32 #[.pointer (some ⟨b, 0, none⟩), .agg (wrow p).toArray] w fun e w' => e = .returned (.tuple #[]) ∧ Lay w' F b (s.land p) g cb A c ∧ Keep F w w' := by
  have L : Hid (∀ w', Keep (fun _ => False) w w' → Lay (w'.setCells g (p.1 * 129) (vals p.2 ++ [Value.bool false])) F b (s.land p) g cb A c) := Lib.hid (fun w' hk => h.landed p hi hx w' hk)
  have K : Hid (∀ w', Keep F w w' → Keep F w (w'.setCells g (p.1 * 129) (vals p.2 ++ [Value.bool false]))) := Lib.hid (fun w' hk => Keep.setCells h.fg _ _ hk)
  have c0 : w.cell? ⟨b, 0, none⟩ = some (.slice (some ⟨g, 0, none⟩) s.blk.length cb) := h.st.cell 0
  have ht := h.rb.there (bl_even h.ok) (bl_len h.ok) p.1 hi
  have hbl := h.st.lt
  have hgl : g < w.heap.size := (h.rb.lt _ rfl).2
  have hgb : b ≠ g := fun e => h.bg e.symm
  have hl : (vals p.2).length = 128 := by rw [vals_length]; exact hx.1
  have h1 : ∀ v ∈ vals p.2, v.oneCell' = true := fun v hv => vals_one _ v hv
  have hn := h.ok.n2
  obtain ⟨i, xs⟩ := p
  have hi : i < s.blk.length := hi
  have hu := Try.underlying63
  have hi' : (Try.prog.info? 63).map (·.size) = some (vals xs).length := by rw [hl]; exact Try.size_arr
  have i0 : (0 : Int) ≤ (i : Int) := by omega
  have i1 : (i : Int) < (s.blk.length : Int) := by omega
  unfold wrow
  dsimp only at *
  clear h hx
  generalize s.blk.length = m at *
  generalize vals xs = D at *
  go_enter Try.func32, Try.ntmps32
  go_wp2_with fail
  have y0 : (w.alloc (.cells (Value.int .i64 (i : Int) :: D).toArray 65)).cell? ⟨w.heap.size, 0, none⟩ = some (.int .i64 (i : Int)) := by rw [cell_of_row _ _ _ _ _ _ (heap_alloc_new w _)]; rfl
  have y1 : (w.alloc (.cells (Value.int .i64 (i : Int) :: D).toArray 65)).rangeAt w.heap.size 1 D := fun k v hv => by
    rw [cell_of_row _ _ _ _ _ _ (heap_alloc_new w _), Nat.add_comm]
    simpa using hv
  have y2 : (w.alloc (.cells (Value.int .i64 (i : Int) :: D).toArray 65)).cell? ⟨b, 0, none⟩ = some (.slice (some ⟨g, 0, none⟩) m cb) := by rw [World.cell?_alloc_lt _ _ _ hbl]; exact c0
  have y3 := World.there_alloc ht (.cells (Value.int .i64 (i : Int) :: D).toArray 65)
  have K0 : Hid (Keep (fun _ => False) w (w.alloc (.cells (Value.int .i64 (i : Int) :: D).toArray 65))) := Lib.hid ((Keep.refl _ w).alloc _)
  have KF : Hid (Keep F w (w.alloc (.cells (Value.int .i64 (i : Int) :: D).toArray 65))) := Lib.hid ((Keep.refl _ w).alloc _)
  generalize w.alloc (.cells (Value.int .i64 (i : Int) :: D).toArray 65) = w1 at *
  have hgH : w.heap.size ≠ g := by omega
  generalize w.heap.size = H at *
  clear c0 ht
  obtain ⟨Z, hz, hzs, hzf⟩ := zero_block_run
  have hzf := hzf D hl
  have hst : (storeCells ⟨g, i * 129, none⟩ (D ++ [Value.bool false]) 0).run Try.prog w1.drew = .ok () (w1.drew.setCells g (i * 129) (D ++ [Value.bool false])) := store_cells _ _ _ _ (by simp [hl]; exact y3) (fun v hv => by
    rcases List.mem_append.1 hv with hv | hv
    · exact h1 v hv
    · rw [List.mem_singleton] at hv; subst hv; rfl)
  have v2 : (w1.drew.setCells g (i * 129) (D ++ [Value.bool false])).cell? ⟨b, 0, none⟩ = some (.slice (some ⟨g, 0, none⟩) m cb) := by rw [World.cell?_setCells_out _ _ _ _ _ (fun e => absurd e hgb)]; exact y2
  have v0 : (w1.drew.setCells g (i * 129) (D ++ [Value.bool false])).cell? ⟨H, 0, none⟩ = some (.int .i64 (i : Int)) := by rw [World.cell?_setCells_out _ _ _ _ _ (fun e => absurd e hgH)]; exact y0
  have v1 : (w1.drew.setCells g (i * 129) (D ++ [Value.bool false])).rangeAt H 1 D := World.rangeAt_setCells_apart (by simpa using y1) _ _ _ (Or.inl hgH)
  have v3 : (w1.drew.setCells g (i * 129) (D ++ [Value.bool false])).there g (i * 129) 129 := World.there_setCells (by simpa using y3) _ _ _
  have V : Hid _ := Lib.hid (And.intro v2 (And.intro v0 (And.intro v1 v3)))
  clear v0 v1 v2 v3
  go_region_held_law (fun w' => w'.cell? ⟨b, 0, none⟩ = some (.slice (some ⟨g, 0, none⟩) m cb) ∧ w'.cell? ⟨H, 0, none⟩ = some (.int .i64 (i : Int)) ∧ w'.rangeAt H 1 D ∧ w'.there g (i * 129) 129)
    (first | exact ⟨y2, y0, y1, y3⟩ | exact V.out)
    (fail)
  go_end0
  exact ⟨rfl, L.out _ K0.out.drew, K.out _ KF.out.drew⟩
end Go.Proofs.Ytaehgpieichjkaa
