/-
  The program's disk: Twin; slices.Clone at its types.
-/
import Derived.Test.YtaehgpieichjkaaDAh
namespace Go.Proofs.Ytaehgpieichjkaa
set_option linter.unusedVariables false
set_option linter.unusedSimpArgs false
open Go.RowKit

/-- Many elements onto an empty list of the call's own. -/
theorem app_rowsN (w : World) {ops : Array Oper} {rs : List Oper} {o : Oper} {a : Act} {Q : Exit → Act → World → Prop} (hgd : o.guard = none)
    (s x : Operand) (t e : TypeId) (ho : o.op = .call { callee := .builtin .append, args := #[s, x], argTypes := #[t, t] }) (hu : Try.prog.underlying t = some (.slice e))
    (zv : Value) (z nb : Nat) (hinf : (Try.prog.info? e).map (fun i => (i.zero, i.size, i.bytes)) = some (some zv, z, nb)) (hzc : zv.cells.size = z) (hz : 0 < z) (hnb : nb ≤ 10000)
    (base : Nat) (g c k : Nat) (ys : List Value) (hs : a.eval s = .slice (some ⟨g, 0, none⟩) k c) (hown : RowN w base e z (some ⟨g, 0, none⟩) k c ys)
    (ad : Addr) (m c' : Nat) (xs : List Value) (hm : xs.length = m * z) (hx : a.eval x = .slice (some ad) m c') (hsrc : ∀ (j : Nat) (u : Value), xs[j]? = some u → w.cell? (ad.add j) = some u) (h1 : ∀ u, u ∈ xs → u.oneCell' = true) (hl : k + m ≤ 1000000000) (hbase : base ≤ w.heap.size)
    (h : ∀ g' c'' w', RowN w' base e z (some ⟨g', 0, none⟩) (k + m) c'' (ys ++ xs) → w.grownBy w' (some g) → wpList Try.prog ops Q rs (a.put o.dst (.slice (some ⟨g', 0, none⟩) (k + m) c'')) w') :
    wpList Try.prog ops Q (o :: rs) a w := by
  obtain ⟨i0, hi, hz0, hz1, hz2⟩ := info_parts hinf
  rcases Nat.eq_zero_or_pos m with h0 | h0
  · subst h0
    rw [Nat.zero_mul] at hm
    obtain rfl : xs = [] := List.eq_nil_of_length_eq_zero hm
    refine wpList_append_fits_any w hgd s x t ho base e i0 z hu hi hz1 g k c ys hs hown (some ad) 0 c' [] hx (by simp) (fun e => (by cases e)) (fun _ _ j u hu => by simp at hu) (fun u hu => by simp at hu) (by have := hown.cap; omega) ?_
    intro w' k1 k2
    exact h g c w' k1 k2
  · refine wpList_append_own w hgd s x t ho base e i0 zv z nb hu hi hz0 hz1 hz2 hzc hz _ k ys hs hown ad m c' xs hx hm hsrc h1 (by unfold maxLen; omega) ?_ hbase ?_
    · have := Nat.mul_le_mul hl hnb
      omega
    · intro v' w' k1 k2 k3
      obtain ⟨g', cap', hv, _, _⟩ := k1.form (by omega)
      subst hv
      exact h g' cap' w' k1 k2
theorem RowN.empty (w : World) (e : TypeId) (z base : Nat) (hb : base ≤ w.heap.size) : RowN (w.alloc (.cells #[] e)) base e z (some ⟨w.heap.size, 0, none⟩) 0 0 [] :=
  RowN.mk (cur := #[]) hb (heap_alloc_new w _) (Nat.le_refl _) (Nat.zero_le _) (by simp) (by simp)
theorem RowN.src {w : World} {base : Nat} {e : TypeId} {z n c g : Nat} {xs : List Value} (h : RowN w base e z (some ⟨g, 0, none⟩) n c xs) (j : Nat) (u : Value) (hu : xs[j]? = some u) : w.cell? ((⟨g, 0, none⟩ : Addr).add j) = some u := by
  rcases h.parts with ⟨e1, _⟩ | ⟨g', cur, e1, hb, h1, h2, h3, h4, h5⟩
  · cases e1
  · injection e1 with e1
    injection e1 with e1
    subst e1
    have hj : j < xs.length := by
      rcases Nat.lt_or_ge j xs.length with e | e
      · exact e
      · rw [List.getElem?_eq_none e] at hu; cases hu
    rw [Addr.add_mid, Nat.zero_add, cell_of_row w g j cur _ (0, 0) h1]
    rw [← h5, List.getElem?_take] at hu
    split at hu
    · simpa using hu
    · cases hu
theorem RowN.len {w : World} {base : Nat} {e : TypeId} {z : Nat} {A : Option Addr} {n c : Nat} {xs : List Value} (h : RowN w base e z A n c xs) : xs.length = n * z := h.1

theorem equal_in (d : Nat) (t e : TypeId) (a : Option Addr) (l c : Nat) (h : Try.prog.underlying t = some (.slice e)) (w : World) : (Op.equalIn (d + 1) t (.slice a l c) (.slice none 0 0)).run Try.prog w = .ok a.isNone w := by cases a <;> simp [Op.equalIn, run_underlying h]
theorem eql_nil (t e : TypeId) (a : Option Addr) (l c : Nat) (h : Try.prog.underlying t = some (.slice e)) (w : World) : (binOp .eql t (.slice a l c) (.slice none 0 0)).run Try.prog w = .ok (.bool a.isNone) w := by
  simp only [binOp]
  simp [Op.equal, Op.maxDepth, equal_in 9999 t e a l c h]
theorem clone_blocks (g n c : Nat) (xs : List Value) (w : World) (h : RowN w 0 68 129 (some ⟨g, 0, none⟩) n c xs) (h1 : ∀ u, u ∈ xs → u.oneCell' = true) (hn : n ≤ 1000000) :
    Calls Try.prog 37 #[.slice (some ⟨g, 0, none⟩) n c] w fun e w' => ∃ g' c', e = .returned (.slice (some ⟨g', 0, none⟩) n c') ∧ RowN w' w.heap.size 68 129 (some ⟨g', 0, none⟩) n c' xs ∧ Below w.heap.size w w' := by
  have H := Lib.hid h; have H1 := Lib.hid h1
  have en := eql_nil 58 68 (some ⟨g, 0, none⟩) n c Try.underlying58
  clear h h1
  go_enter Try.func37, Try.ntmps37
  go_wp2_with (at_builtin; go_loud (refine app_rowsN _ rfl _ _ 58 68 rfl Try.underlying58 _ 129 129 Try.info_block (by simp [Value.cells, vals_length, fillB_length]) (by decide) (by decide) w.heap.size w.heap.size 0 0 [] rfl (RowN.empty w _ _ _ (Nat.le_refl _)) ⟨g, 0, none⟩ n c xs H.out.len rfl (H.out.alloc _).src H1.out (by omega) (by simp) ?_))
  intro g' c'' w' r1 r2
  have r1 : RowN w' w.heap.size 68 129 (some ⟨g', 0, none⟩) n c'' xs := r1
  have R1 := Lib.hid r1
  have B1 : Hid (Below w.heap.size w w') := Lib.hid (Below.grown (Below.alloc (Below.refl _ w) (Nat.le_refl _) (.cells #[] 68)) r2 (by simp) (fun k hk => by injection hk with hk; omega))
  clear r1 r2
  go_wp2
  go_ret
  exact ⟨g', c'', rfl, R1.out, B1.out⟩
theorem clone_writes (A : Option Addr) (n c : Nat) (xs : List Value) (w : World) (h : RowN w 0 65 129 A n c xs) (h1 : ∀ u, u ∈ xs → u.oneCell' = true) (hn : n ≤ 1000000) :
    Calls Try.prog 38 #[.slice A n c] w fun e w' => ∃ A' c', e = .returned (.slice A' n c') ∧ RowN w' w.heap.size 65 129 A' n c' xs ∧ Below w.heap.size w w' := by
  rcases h.parts with ⟨rfl, rfl, rfl, rfl⟩ | ⟨g, cur, rfl, _⟩
  · have en := eql_nil 59 65 none 0 0 Try.underlying59
    go_enter Try.func38, Try.ntmps38
    go_wp2
    go_ret
    exact ⟨none, 0, rfl, RowN.nil _ _ _ _, Below.refl _ _⟩
  · have H := Lib.hid h; have H1 := Lib.hid h1
    have en := eql_nil 59 65 (some ⟨g, 0, none⟩) n c Try.underlying59
    clear h h1
    go_enter Try.func38, Try.ntmps38
    go_wp2_with (at_builtin; go_loud (refine app_rowsN _ rfl _ _ 59 65 rfl Try.underlying59 _ 129 136 Try.info_write (by simp [Value.cells, vals_length, zeros_length]) (by decide) (by decide) w.heap.size w.heap.size 0 0 [] rfl (RowN.empty w _ _ _ (Nat.le_refl _)) ⟨g, 0, none⟩ n c xs H.out.len rfl (H.out.alloc _).src H1.out (by omega) (by simp) ?_))
    intro g' c'' w' r1 r2
    have r1 : RowN w' w.heap.size 65 129 (some ⟨g', 0, none⟩) n c'' xs := r1
    have R1 := Lib.hid r1
    have B1 : Hid (Below w.heap.size w w') := Lib.hid (Below.grown (Below.alloc (Below.refl _ w) (Nat.le_refl _) (.cells #[] 65)) r2 (by simp) (fun k hk => by injection hk with hk; omega))
    clear r1 r2
    go_wp2
    go_ret
    exact ⟨some ⟨g', 0, none⟩, c'', rfl, R1.out, B1.out⟩
theorem bl_one {s : Dk} (u : Value) (h : u ∈ (bl s).flatten) : u.oneCell' = true := by
  obtain ⟨l, hl, hu⟩ := List.mem_flatten.1 h
  unfold bl at hl
  obtain ⟨i, hi, rfl⟩ := List.mem_iff_getElem.1 hl
  rw [List.getElem_zipWith] at hu
  rcases List.mem_append.1 hu with hu | hu
  · exact vals_one _ u hu
  · rw [List.mem_singleton] at hu; subst hu; rfl
theorem wl_one (l : List (Nat × List Int)) (u : Value) (h : u ∈ (wl l).flatten) : u.oneCell' = true := by
  obtain ⟨x, hx, hu⟩ := List.mem_flatten.1 h
  unfold wl at hx
  rw [List.mem_map] at hx
  obtain ⟨p, _, rfl⟩ := hx
  exact wrow_one p u hu
theorem clone_bytes (B : Nat) (a : Addr) (c : Nat) (xs : List Int) (w : World) (hr : RdB w B (some a) xs) (hB : B ≤ w.heap.size) (hl : xs.length = 128) :
    Calls Try.prog 34 #[.slice (some a) 128 c] w fun e w' => ∃ g' c', e = .returned (.slice (some ⟨g', 0, none⟩) 128 c') ∧ Own w' w.heap.size g' c' xs ∧ Below w.heap.size w w' := by
  have HR := Lib.hid hr; have HL := Lib.hid hl
  have en := eql_nil 26 5 (some a) 128 c Try.underlying26
  clear hr hl
  go_enter Try.func34, Try.ntmps34
  go_wp2_with (at_builtin; go_loud (refine app_rd _ rfl _ _ rfl w.heap.size w.heap.size 0 0 [] rfl rfl (Own.empty w _ (Nat.le_refl _)) B (some a) 128 c xs HL.out rfl (HR.out.below ((Below.alloc (Below.refl _ w) (Nat.le_refl _) _).mono hB)) (fun e => (by cases e)) (by omega) (by simp) ?_))
  intro g' c'' w' r1 r2
  have R1 := Lib.hid r1
  have B1 : Hid (Below w.heap.size w w') := Lib.hid (Below.grown (Below.alloc (Below.refl _ w) (Nat.le_refl _) (.cells #[] 5)) r2 (by simp) (fun k hk => by injection hk with hk; omega))
  clear r1 r2
  go_wp2
  go_ret
  exact ⟨g', c'', rfl, R1.out, B1.out⟩

set_option maxRecDepth 100000 in
set_option maxHeartbeats 4000000 in
theorem disk_twin (F b s) (w : World) (h : DiskAt w F b s) (hw : s.wt.length ≤ 1000000) : Calls Try.prog 24 #[.pointer (some ⟨b, 0, none⟩)] w fun e w' => ∃ b' T, e = .returned (.pointer (some ⟨b', 0, none⟩)) ∧ DiskAt w' T b' s ∧ (∀ k, T k → w.heap.size ≤ k) ∧ ∃ F', DiskAt w' F' b s ∧ Keep F w w' ∧ Sub F' F w ∧ ∀ k, F' k → ¬ T k := by
  obtain ⟨g, cb, A, c, h⟩ := h
  have c0 : w.cell? ⟨b, 0, none⟩ = some (.slice (some ⟨g, 0, none⟩) s.blk.length cb) := h.st.cell 0
  have c1 : w.cell? ⟨b, 1, none⟩ = some (.slice A s.wt.length c) := h.st.cell 1
  have c2 : w.cell? ⟨b, 2, none⟩ = some (.int .i64 s.fuse) := h.st.cell 2
  have c3 : w.cell? ⟨b, 3, none⟩ = some (.bool s.off) := h.st.cell 3
  have c4 : w.cell? ⟨b, 4, none⟩ = some (.int .i64 (s.wrote : Int)) := h.st.cell 4
  have H := Lib.hid h
  have hbl := h.st.lt
  have n2 := h.ok.n2
  clear h
  generalize hm : s.blk.length = m at *
  generalize hq : s.wt.length = q at *
  have HM := Lib.hid hm; have HQ := Lib.hid hq
  clear hm hq
  generalize hfu : s.fuse = fu at *
  generalize hof : s.off = fo at *
  generalize hwr : s.wrote = wr at *
  have HFU := Lib.hid hfu; have HOF := Lib.hid hof; have HWR := Lib.hid hwr
  clear hfu hof hwr
  go_enter Try.func24, Try.ntmps24
  go_wp2_with fail
  obtain ⟨T0, hT0⟩ : ∃ T0, w.heap.size = T0 := ⟨_, rfl⟩
  have st1 := Arr.new w 61 [.slice (some ⟨g, 0, none⟩) m cb, .slice A q c, .int .i64 fu, .bool fo, .int .i64 (wr : Int)]
  have l1 := H.out.alloc (.cells #[.slice (some ⟨g, 0, none⟩) m cb, .slice A q c, .int .i64 fu, .bool fo, .int .i64 (wr : Int)] 61)
  have k1 : Keep F w (w.alloc (.cells #[.slice (some ⟨g, 0, none⟩) m cb, .slice A q c, .int .i64 fu, .bool fo, .int .i64 (wr : Int)] 61)) := (Keep.refl _ _).alloc _
  have s1 : (w.alloc (.cells #[.slice (some ⟨g, 0, none⟩) m cb, .slice A q c, .int .i64 fu, .bool fo, .int .i64 (wr : Int)] 61)).heap.size = T0 + 1 := by simp; omega
  have st1 : Arr (w.alloc (.cells #[.slice (some ⟨g, 0, none⟩) m cb, .slice A q c, .int .i64 fu, .bool fo, .int .i64 (wr : Int)] 61)) T0 61 [.slice (some ⟨g, 0, none⟩) m cb, .slice A q c, .int .i64 fu, .bool fo, .int .i64 (wr : Int)] := by rw [← hT0]; exact st1
  have HT0 := Lib.hid hT0
  rw [hT0]
  clear hT0
  generalize w.alloc (.cells #[.slice (some ⟨g, 0, none⟩) m cb, .slice A q c, .int .i64 fu, .bool fo, .int .i64 (wr : Int)] 61) = w1 at *
  have cl := clone_blocks g m cb (bl s).flatten w1 (by have := l1.rb; rw [HM.out] at this; exact this) bl_one (by omega)
  refine cl.mono ?_
  rintro e w2 ⟨g', c', rfl, r2, b2⟩
  clear cl
  have g1 := (r2.lt _ rfl)
  have g1 : w1.heap.size ≤ g' ∧ g' < w2.heap.size := g1
  have st2 := st1.below b2
  have z0 := st2.frozen 0
  have y0 : w2.cell? ⟨T0, 0, none⟩ = some (.slice (some ⟨g, 0, none⟩) m cb) := st2.cell 0
  -- behind the first store
  have st3 := st2.set 0 (.slice (some ⟨g', 0, none⟩) m c')
  have l2 : Lay w2 F b s g cb A c := l1.stay (fun j hj => b2.block j (l1.lt j hj))
  have ltF : Hid (∀ k, F k → k < T0) := Lib.hid (fun k hk => by have := H.out.lt k hk; rw [HT0.out] at this; exact this)
  have l3 : Lay (w2.setCell ⟨T0, 0, none⟩ (.slice (some ⟨g', 0, none⟩) m c')) F b s g cb A c := l2.stay (fun j hj => Below.heap_setCell _ _ _ _ (fun e => by have := ltF.out j hj; have e : j = T0 := e; omega))
  have k3 : Keep F w (w2.setCell ⟨T0, 0, none⟩ (.slice (some ⟨g', 0, none⟩) m c')) := ⟨(b2.os).trans k1.os, (b2.tape).trans k1.tape, (b2.output).trans k1.output, by rw [setCell_size]; have := k1.size; have := b2.size; omega, fun k hk hn => by
    have e0 := HT0.out
    rw [Below.heap_setCell _ _ _ _ (fun e => by have e : k = T0 := e; omega), b2.block k (by omega), k1.block k hk hn]⟩
  have r3 : RowN (w2.setCell ⟨T0, 0, none⟩ (.slice (some ⟨g', 0, none⟩) m c')) (T0 + 1) 68 129 (some ⟨g', 0, none⟩) m c' (bl s).flatten := by
    rw [s1] at r2 g1
    exact r2.other (fun a ha => by injection ha with ha; subst ha; show g' ≠ T0; omega) _
  have hT1 : T0 < w2.heap.size := by omega
  have s3 : T0 + 1 ≤ w2.heap.size := by omega
  have x1 : (w2.setCell ⟨T0, 0, none⟩ (.slice (some ⟨g', 0, none⟩) m c')).cell? ⟨b, 1, none⟩ = some (.slice A s.wt.length c) := l3.st.cell 1
  rw [HQ.out] at x1
  have ST3 := Lib.hid st3; have L3 := Lib.hid l3; have K3 := Lib.hid k3; have R3 := Lib.hid r3
  have X1 := Lib.hid x1
  clear st1 l1 k1 s1 r2 b2 g1 st2 st3 l2 l3 k3 r3 c0 c1 c2 c3 c4 x1
  go_upto_region 3 with fail
  have x1 := X1.out
  obtain ⟨w3, hw3⟩ : ∃ w3, w2.setCell ⟨T0, 0, none⟩ (.slice (some ⟨g', 0, none⟩) m c') = w3 := ⟨_, rfl⟩
  have S3 : Hid (w3.heap.size = w2.heap.size) := Lib.hid (by rw [← hw3, setCell_size])
  rw [hw3] at ST3 L3 K3 R3 x1 ⊢
  clear hw3 y0 z0 X1
  go_wp2_with fail
  have cl := clone_writes A q c (wl s.wt).flatten w3 (by have := L3.out.rw'; rw [HQ.out] at this; exact this) (wl_one _) hw
  refine cl.mono ?_
  rintro e w4 ⟨A', c'', rfl, r4, b4⟩
  clear cl
  have st4 := ST3.out.below b4
  have z1 := st4.frozen 1
  have y1 : w4.cell? ⟨T0, 1, none⟩ = some (.slice A q c) := st4.cell 1
  have ST4 := Lib.hid st4; have R4 := Lib.hid r4; have B4 := Lib.hid b4
  clear st4 r4 b4 x1
  go_wp2
  go_ret
  have st5 := ST4.out.set 1 (.slice A' q c'')
  have b4 := B4.out
  have sz := S3.out
  have r3 := R3.out.below b4
  have r4 := R4.out
  have nA : ∀ a, A' = some a → a.block ≠ T0 := fun a ha => by have := (r4.lt a ha).1; omega
  have nAg : ∀ a, A' = some a → w3.heap.size ≤ a.block := fun a ha => (r4.lt a ha).1
  have l5 : Lay (w4.setCell ⟨T0, 1, none⟩ (.slice A' q c'')) F b s g cb A c := (L3.out.stay (fun j hj => b4.block j (L3.out.lt j hj))).stay (fun j hj => Below.heap_setCell _ _ _ _ (fun e => by have := ltF.out j hj; have e : j = T0 := e; omega))
  refine ⟨T0, fun k => k = T0 ∨ k = g' ∨ ∃ a, A' = some a ∧ k = a.block, rfl, ⟨g', c', A', c'', ?_⟩, fun k hk => ?_, F, ⟨g, cb, A, c, l5⟩, ?_, Sub.refl _ _, fun k hk ht => ?_⟩
  · refine ⟨H.out.ok, ?_, ?_, ?_, Or.inl rfl, Or.inr (Or.inl rfl), fun a ha => Or.inr (Or.inr ⟨a, ha, rfl⟩), fun k hk => ?_⟩
    · have e : dkCells s g' c' A' c'' = [.slice (some ⟨g', 0, none⟩) m c', .slice A' q c'', .int .i64 fu, .bool fo, .int .i64 (wr : Int)] := by
        unfold dkCells
        rw [HM.out, HQ.out, HFU.out, HOF.out, HWR.out]
      rw [e]
      exact st5
    · rw [HM.out]
      exact (r3.weak (fun _ _ => Nat.zero_le _)).other (fun a ha => by have := (r3.lt a ha).1; omega) _
    · rw [HQ.out]
      exact (r4.weak (fun _ _ => Nat.zero_le _)).other nA _
    · rw [setCell_size]
      rcases hk with hk | hk | ⟨a, ha, hk⟩
      · have := b4.size; omega
      · have := (r3.lt _ rfl).2; rw [hk]; exact this
      · have := (r4.lt a ha).2; omega
  · have e0 := HT0.out
    rcases hk with hk | hk | ⟨a, ha, hk⟩
    · omega
    · have := (r3.lt _ rfl).1
      have : T0 + 1 ≤ g' := this
      omega
    · have := nAg a ha
      omega
  · have k3 := K3.out
    have e0 := HT0.out
    refine ⟨(b4.os).trans k3.os, (b4.tape).trans k3.tape, (b4.output).trans k3.output, by rw [setCell_size]; have := k3.size; have := b4.size; omega, fun k hk hn => ?_⟩
    rw [Below.heap_setCell _ _ _ _ (fun e => by have e : k = T0 := e; omega), b4.block k (by omega), k3.block k hk hn]
  · have hk' := ltF.out k hk
    rcases ht with ht | ht | ⟨a, ha, ht⟩
    · omega
    · have := (r3.lt _ rfl).1
      have : T0 + 1 ≤ g' := this
      omega
    · have := nAg a ha
      omega
end Go.Proofs.Ytaehgpieichjkaa
