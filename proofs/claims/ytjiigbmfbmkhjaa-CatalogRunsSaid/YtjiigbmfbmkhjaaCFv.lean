/-
  A file in a variable: made, read, laid into it, returned; the contract of package catalog's Find.
-/
import Derived.Test.YtjiigbmfbmkhjaaCPb
import Derived.Test.YtjiigbmfbmkhjaaCS
import Derived.Test.YtjiigbmfbmkhjaaSm
namespace Go.Proofs.Ytjiigbmfbmkhjaa
set_option linter.unusedVariables false
set_option linter.unusedSimpArgs false
set_option maxRecDepth 100000
open Go.RowKit

/-- A file in a block of its own. -/
def FlV (w : World) (b : Nat) (f : Fl) : Prop := Arr w b 25 (flv f)
theorem FlV.below {w w' : World} {b : Nat} {f : Fl} (h : FlV w b f) (hb : Below w.heap.size w w') : FlV w' b f := Arr.below h hb
theorem FlV.lt {w : World} {b : Nat} {f : Fl} (h : FlV w b f) : b < w.heap.size := Arr.lt h
theorem FlV.new (w : World) (f : Fl) : FlV (w.alloc (.cells #[.int .i64 f.name, .int .i64 f.file, .int .i64 f.first, .int .i64 f.blocks] 25)) w.heap.size f := Arr.new w _ (flv f)
theorem Try.size_fl : (Try.prog.info? 25).map (·.size) = some 4 := by kernel_rfl
theorem FlV.range {w : World} {b : Nat} {f : Fl} (h : FlV w b f) : w.rangeAt b 0 (flv f) := fun j v hv => by rw [Arr.cell h, Nat.zero_add]; exact hv
theorem FlV.cells {w : World} {b : Nat} {f : Fl} (h : FlV w b f) : w.cell? ⟨b, 0, none⟩ = some (.int .i64 f.name) ∧ w.cell? ⟨b, 1, none⟩ = some (.int .i64 f.file) ∧ w.cell? ⟨b, 2, none⟩ = some (.int .i64 f.first) ∧ w.cell? ⟨b, 3, none⟩ = some (.int .i64 f.blocks) :=
  ⟨Arr.cell h 0, Arr.cell h 1, Arr.cell h 2, Arr.cell h 3⟩
theorem Try.zero_fl : (Try.prog.info? 25).map (fun i => (i.zero, i.size)) = some (some (.agg (flv Fl.zero).toArray), 4) := by kernel_rfl
section
variable {ops : Array Oper} {rs : List Oper} {o : Oper} {a : Act} {w : World} {Q : Exit → Act → World → Prop}
theorem load_fl (hgd : o.guard = none) (x : Operand) (ho : o.op = .load 25 x) (b : Nat) (f : Fl) (hL : FlV w b f) (hx : a.eval x = .pointer (some ⟨b, 0, none⟩))
    (h : wpList Try.prog ops Q rs (a.put o.dst (.agg (flv f).toArray)) w) : wpList Try.prog ops Q (o :: rs) a w :=
  wpList_load_mid hgd _ x ho b 0 hx (flv f) _ hL.range Try.underlying25 rfl Try.size_fl h
theorem zero_fl_run (w : World) : (zeroValue 25).run Try.prog w = .ok (.agg (flv Fl.zero).toArray) w := (zero_of_info Try.zero_fl).1 w
theorem alloc_fl (hgd : o.guard = none) (ho : o.op = .alloc 25)
    (h : ∀ w1, FlV w1 w.heap.size Fl.zero → Below w.heap.size w w1 → w1.heap.size = w.heap.size + 1 → wpList Try.prog ops Q rs (a.put o.dst (.pointer (some ⟨w.heap.size, 0, none⟩))) w1) : wpList Try.prog ops Q (o :: rs) a w :=
  wpList_plain hgd fun K hK => by
    unfold Oper.wp execOp
    simp only [ho, Instr.alloc, newVar, newRow, newObj, Value.cells, Sem.run_bind, Sem.run_pure, Result.andThen_ok, zero_fl_run]
    exact hK _ _ (h _ (Arr.new w _ _) ((Below.refl _ _).alloc (Nat.le_refl _) _) (by simp))
theorem store_fl_run {b : Nat} {f0 f : Fl} (h0 : FlV w b f0) : (storeVar 25 ⟨b, 0, none⟩ (.agg (flv f).toArray)).run Try.prog w = .ok () (w.setRow b (flv f).toArray) :=
  run_storeVar_row w b _ _ _ _ h0 (by rw [List.size_toArray]; exact Try.size_fl) (by rw [List.size_toArray, List.size_toArray]; rfl) (all_oneCell_toArray (flv_one f))
theorem store_fl (hgd : o.guard = none) (x y : Operand) (ho : o.op = .store 25 x y) (b : Nat) (f0 f : Fl) (h0 : FlV w b f0) (hx : a.eval x = .pointer (some ⟨b, 0, none⟩)) (hy : a.eval y = .agg (flv f).toArray)
    (h : ∀ w1, FlV w1 b f → Keep (· = b) w w1 → w1.heap.size = w.heap.size → wpList Try.prog ops Q rs (a.put o.dst undef) w1) : wpList Try.prog ops Q (o :: rs) a w :=
  wpList_plain hgd fun K hK => by
    unfold Oper.wp execOp
    simp only [ho, hx, hy, Instr.storeAt, Instr.sureAddr, Sem.run_bind, Sem.run_pure, Result.andThen_ok, store_fl_run h0]
    exact hK _ _ (h _ (setRow_heap w b _ _ _ _ h0) (keep_setRow w b _) (by simp [World.setRow]))
theorem built_fl0 : Try.prog.built 25 [] = some (flv Fl.zero).toArray := by
  have h1 := Try.zero_fl
  unfold Program.built
  cases hi : Try.prog.info? 25 with
  | none => rw [hi] at h1; cases h1
  | some it =>
    rw [hi] at h1
    simp at h1
    rw [Try.underlying25]
    simp only [h1.1]
    rfl
theorem build_fl0 (hgd : o.guard = none) (ho : o.op = .build 25 #[])
    (h : wpList Try.prog ops Q rs (a.put o.dst (.agg (flv Fl.zero).toArray)) w) : wpList Try.prog ops Q (o :: rs) a w :=
  wpList_plain hgd fun K hK => by
    unfold Oper.wp execOp
    simp only [ho, Array.map_empty, run_build w 25 #[] _ built_fl0, Sem.run_bind, Sem.run_pure, Result.andThen_ok]
    exact hK _ _ h
end
theorem load_fl_run {w : World} {b : Nat} {f : Fl} (h : FlV w b f) : (loadVar 25 ⟨b, 0, none⟩).run Try.prog w = .ok (.agg (flv f).toArray) w :=
  run_loadVar_mid w b 0 _ (flv f) _ h.range Try.underlying25 rfl Try.size_fl
theorem ret_fl {fn : Func} {R : Ending → World → Prop} {a : Act} {w : World} {b : Nat} {f : Fl} {q : Bool} (i j : Nat) (hf : fn.results = #[.cell i 25, .tmp j]) (hi : a.tmps.getD i undef = .pointer (some ⟨b, 0, none⟩)) (hj : a.tmps.getD j undef = .bool q) (h : FlV w b f) (hd : a.defers = [])
    (hR : R (.returned (.tuple #[.agg (flv f).toArray, .bool q])) w) : bodyPost Try.prog fn R .ret a w := by
  refine bodyPost_ret (v := .tuple #[.agg (flv f).toArray, .bool q]) ?_ hd hR
  unfold results
  rw [hf]
  rw [Array.getD_eq_getD_getElem?] at hi hj
  simp [hi, hj, asAddr, load_fl_run h]
/-- What Find answers. -/
def fndF (l : List Fl) (nm : Int) : Fl := (fnd Fl.name nm l).getD Fl.zero
def fndK (l : List Fl) (nm : Int) : Bool := (fnd Fl.name nm l).isSome
theorem mem_flAt {l : List Fl} {z : Fl} (h : z ∈ l) : ∃ i, i < l.length ∧ flAt l i = z := by
  obtain ⟨i, hi, e⟩ := List.mem_iff_getElem.1 h
  refine ⟨i, hi, ?_⟩
  unfold flAt
  rw [List.getD_eq_getElem?_getD, List.getElem?_eq_getElem hi]
  exact e
theorem flAt_mem {l : List Fl} {i : Nat} (hi : i < l.length) : flAt l i ∈ l := by
  unfold flAt
  rw [List.getD_eq_getElem?_getD, List.getElem?_eq_getElem hi]
  exact List.getElem_mem hi
theorem flAt_get {l : List Fl} {i : Nat} (hi : i < l.length) : l[i] = flAt l i := by
  unfold flAt
  rw [List.getD_eq_getElem?_getD, List.getElem?_eq_getElem hi]
  rfl
theorem fnd_miss {l : List Fl} {nm : Int} (h : ∀ j, j < l.length → (flAt l j).name ≠ nm) : fndF l nm = Fl.zero ∧ fndK l nm = false := by
  have e : fnd Fl.name nm l = none := (fnd_none Fl.name).2 fun z hz hn => by
    obtain ⟨i, hi, rfl⟩ := mem_flAt hz
    exact h i hi hn
  unfold fndF fndK
  rw [e]
  exact ⟨rfl, rfl⟩
theorem fnd_hit {l : List Fl} {nm : Int} {i : Nat} (hi : i < l.length) (h : ∀ j, j < i → (flAt l j).name ≠ nm) (hn : (flAt l i).name = nm) : fndF l nm = flAt l i ∧ fndK l nm = true := by
  have e : fnd Fl.name nm l = some (flAt l i) := by
    unfold fnd
    rw [List.find?_eq_some_iff_getElem]
    refine ⟨by simpa using hn, i, hi, flAt_get hi, fun j hj => ?_⟩
    have := h j hj
    rw [flAt_get (by omega)]
    simpa using this
  unfold fndF fndK
  rw [e]
  exact ⟨rfl, rfl⟩
set_option maxHeartbeats 2000000 in
theorem find_any (c : Ct) (N : Nat) (A : Option Addr) (n cap : Nat) (nm : Int) (w : World) (hl : c.files.length = n) (hm : n ≤ maxLen) (hr : FlR w N A c.files) (hN : N ≤ w.heap.size) (hnm : I64x nm) :
    Calls Try.prog 22 #[.agg (ctv c A n cap).toArray, .int .i64 nm] w fun e w' => e = .returned (.tuple #[.agg (flv (fndF c.files nm)).toArray, .bool (fndK c.files nm)]) ∧ Below w.heap.size w w' := by
  unfold maxLen at hm
  obtain ⟨nm0, nm1⟩ := hnm
  have HL := Lib.hid hl; have HR := Lib.hid hr
  clear hl hr
  go_enter Try.func22, Try.ntmps22
  go_wp2_with (with_reducible refine box_ct rfl _ rfl c A n cap rfl ?_)
  intro w1 l1 b1 s1
  obtain ⟨b, hb⟩ : ∃ b, b = w.heap.size := ⟨_, rfl⟩
  rw [← hb] at l1 ⊢
  have hN1 : N ≤ w1.heap.size := by omega
  have R1 := Lib.hid (HR.out.below (b1.mono hN))
  have S1 := Lib.hid s1; have HB := Lib.hid hb
  clear s1 hb
  go_wp2_with (with_reducible refine alloc_fl rfl rfl ?_)
  intro w2 l2 b2 s2
  have s1 := S1.out
  have hb := HB.out
  obtain ⟨r, hr⟩ : ∃ r, r = w1.heap.size := ⟨_, rfl⟩
  rw [← hr] at l2 ⊢
  have R2 := Lib.hid (R1.out.below (b2.mono hN1))
  have B2 := Lib.hid (bstep b1 b2)
  have L2 := Lib.hid l2
  have hN2 : N ≤ w2.heap.size := by omega
  have hr2 : r < w2.heap.size := by omega
  have hwr : w.heap.size ≤ r := by omega
  have hNr : N ≤ r := by omega
  obtain ⟨_, _, _, _, _, _, _, _, c8⟩ := (l1.below b2).cells
  clear hb hr b1 b2 s1 s2 S1 HB l1 l2 R1 HR
  go_wp2
  go_loopw [7, 11] (fun _ iv wr => ∃ i : Nat, i ≤ n ∧ iv = .int .i64 i ∧ (∀ j, j < i → (flAt c.files j).name ≠ nm) ∧ FlV wr r Fl.zero ∧ Below w2.heap.size w2 wr) (fun _ iv _ => n - (intOf iv).toNat)
  case atStart => exact ⟨0, Nat.zero_le _, rfl, fun j hj => by omega, L2.out, Below.refl _ _⟩
  case round =>
    obtain ⟨i, hi, rfl, hall, lz, bw⟩ := hrel
    have HALL := Lib.hid hall
    have LZ := Lib.hid lz
    clear hall lz
    by_cases hlt : i < n
    · have i1 : decide ((i : Int) < (n : Int)) = true := by rw [decide_eq_true_eq]; omega
      have R3 := Lib.hid (R2.out.below (bw.mono hN2))
      obtain ⟨fb, fo, rfl, hfb, z0, z1, z2, z3, fok⟩ := R3.out i (by rw [HL.out]; exact hlt)
      obtain ⟨⟨n0, n1⟩, _⟩ := id fok
      have BW := Lib.hid bw
      have hsz := bw.size
      clear bw fok R3
      obtain ⟨f, hf⟩ : ∃ f, flAt c.files i = f := ⟨_, rfl⟩
      rw [hf] at z0 z1 z2 z3 n0 n1
      have HF := Lib.hid hf
      clear hf
      by_cases hn : f.name = nm
      · have q1 : decide (f.name = nm) = true := by rw [decide_eq_true_eq]; exact hn
        have q2 : (f.name == nm) = true := by rw [beq_iff_eq]; exact hn
        have FH := Lib.hid (fnd_hit (l := c.files) (nm := nm) (i := i) (by rw [HL.out]; exact hlt) HALL.out (by rw [HF.out]; exact hn))
        clear hn
        go_upto_region 5 with fail
        obtain ⟨W, hW⟩ : ∃ W, W = wr.alloc (.cells #[.int .i64 f.name, .int .i64 f.file, .int .i64 f.first, .int .i64 f.blocks] 25) := ⟨_, rfl⟩
        rw [← hW]
        obtain ⟨g, hg⟩ : ∃ g, g = wr.heap.size := ⟨_, rfl⟩
        rw [← hg]
        have hbW : Below wr.heap.size wr W := by rw [hW]; exact (Below.refl _ _).alloc (Nat.le_refl _) _
        have LF : Hid (FlV W g f) := Lib.hid (by rw [hW, hg]; exact FlV.new wr f)
        have LW := Lib.hid (LZ.out.below hbW)
        have BWW := Lib.hid (bstep BW.out hbW)
        clear hW hg hbW z0 z1 z2 z3
        go_wp2_with (first | (with_reducible refine load_fl rfl _ rfl g f LF.out rfl ?_) | (with_reducible refine store_fl rfl _ _ rfl r Fl.zero f LW.out rfl rfl ?_))
        intro w7 l7 k7 s7
        have L7 := Lib.hid l7
        have B7 := Lib.hid (k7.below (fun k hk => by omega) (bstep B2.out BWW.out) (by have := BWW.out.size; have := B2.out.size; omega))
        clear l7 k7 s7
        go_wp2
        refine ret_fl 4 5 rfl rfl rfl L7.out rfl ⟨?_, B7.out⟩
        rw [FH.out.1, FH.out.2, HF.out]
      · have q1 : decide (f.name = nm) = false := by rw [decide_eq_false_iff_not]; exact hn
        have q2 : (f.name == nm) = false := by rw [beq_eq_false_iff_ne]; exact hn
        have HN : Hid (∀ j, j < i + 1 → (flAt c.files j).name ≠ nm) := Lib.hid (fun j hj => by
          by_cases hji : j = i
          · rw [hji, HF.out]; exact hn
          · exact HALL.out j (by omega))
        have hbW : Hid (Below wr.heap.size wr (wr.alloc (.cells #[.int .i64 f.name, .int .i64 f.file, .int .i64 f.first, .int .i64 f.blocks] 25))) := Lib.hid ((Below.refl _ _).alloc (Nat.le_refl _) _)
        clear hn
        go_wp2
        go_roundw
        case rel => exact ⟨i + 1, by omega, by go_num, HN.out, LZ.out.below hbW.out, bstep BW.out hbW.out⟩
        case measure => simp [intOf]; omega
    · obtain rfl : i = n := by omega
      have i1 : decide ((i : Int) < (i : Int)) = false := by simp
      have FM := Lib.hid (fnd_miss (l := c.files) (nm := nm) (by rw [HL.out]; exact HALL.out))
      have BW := Lib.hid bw
      have hsz := bw.size
      clear bw
      go_wp2_with (first | (with_reducible refine build_fl0 rfl rfl ?_) | (with_reducible refine store_fl rfl _ _ rfl r Fl.zero Fl.zero LZ.out rfl rfl ?_))
      intro w7 l7 k7 s7
      have L7 := Lib.hid l7
      have B7 := Lib.hid (k7.below (fun k hk => by omega) (bstep B2.out BW.out) (by have := BW.out.size; have := B2.out.size; omega))
      clear l7 k7 s7
      go_wp2
      refine ret_fl 4 5 rfl rfl rfl L7.out rfl ⟨?_, B7.out⟩
      rw [FM.out.1, FM.out.2]
end Go.Proofs.Ytjiigbmfbmkhjaa
