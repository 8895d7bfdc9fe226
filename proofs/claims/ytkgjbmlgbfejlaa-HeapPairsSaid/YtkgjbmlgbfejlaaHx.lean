/-
  The walk of the statement HeapPairs.
-/
import Derived.Test.YtkgjbmlgbfejlaaHr
import Derived.Test.YtkgjbmlgbfejlaaHpQ
import Derived.Test.YtkgjbmlgbfejlaaWSums
import Derived.Lib.MinMax
namespace Go.Proofs.Ytkgjbmlgbfejlaa
set_option linter.unusedVariables false
set_option linter.unusedSimpArgs false
set_option maxRecDepth 100000
open Go.RowKit

/-- Each number with its place. -/
def prs (own : List Int) (n : Nat) : List (Int × Int) := (List.range n).map fun j => (own.getD j 0, (j : Int))
theorem prs_succ (own : List Int) (n : Nat) : prs own (n + 1) = prs own n ++ [(own.getD n 0, (n : Int))] := by
  unfold prs
  rw [List.range_succ, List.map_append]
  rfl
theorem prs_len (own : List Int) (n : Nat) : (prs own n).length = n := by unfold prs; rw [List.length_map, List.length_range]
theorem prs_mem {own : List Int} {n : Nat} {x : Int × Int} (h : x ∈ prs own n) : ∃ j, j < n ∧ x = (own.getD j 0, (j : Int)) := by
  unfold prs at h
  obtain ⟨j, hj, rfl⟩ := List.mem_map.1 h
  exact ⟨j, List.mem_range.1 hj, rfl⟩
theorem prs_nodup (own : List Int) : ∀ n, ((prs own n).map Prod.snd).Nodup
  | 0 => List.nodup_nil
  | n + 1 => by
    rw [prs_succ, List.map_append]
    refine List.nodup_append.2 ⟨prs_nodup own n, by simp, fun a ha b hb e => ?_⟩
    obtain ⟨x, hx, rfl⟩ := List.mem_map.1 ha
    obtain ⟨j, hj, rfl⟩ := prs_mem hx
    have hb : b = (n : Int) := by simpa using hb
    have e : (j : Int) = b := e
    omega
/-- What has come out, what is in, what is marked. -/
structure MetI (own : List Int) (n : Nat) (S C : List (Int × Int)) (ms : List Bool) : Prop where
  all : (S ++ C).Perm (prs own n)
  len : ms.length = n
  met : ∀ j, j < n → (ms[j]? = some true ↔ (j : Int) ∈ S.map Prod.snd)
theorem MetI.start {own : List Int} {n : Nat} {C : List (Int × Int)} (h : C.Perm (prs own n)) : MetI own n [] C (List.replicate n false) :=
  ⟨h, by rw [List.length_replicate], fun j hj => by rw [List.getElem?_replicate, if_pos hj]; simp⟩
theorem MetI.pop {own : List Int} {n : Nat} {S C C' : List (Int × Int)} {ms : List Bool} {x : Int × Int} (h : MetI own n S C ms) (hx : x ∈ C) (hp : C.Perm (x :: C')) : ∃ j, j < n ∧ x = (own.getD j 0, (j : Int)) ∧ ms[j]? = some false ∧ MetI own n (S ++ [x]) C' (ms.set j true) := by
  obtain ⟨j, hj, rfl⟩ := prs_mem (h.all.subset (List.mem_append_right S hx))
  have nd : ((S ++ C).map Prod.snd).Nodup := (h.all.map Prod.snd).nodup_iff.2 (prs_nodup own n)
  rw [List.map_append] at nd
  have hjS : (j : Int) ∉ S.map Prod.snd := fun q => (List.nodup_append.1 nd).2.2 _ q _ (List.mem_map.2 ⟨_, hx, rfl⟩) rfl
  have hms : ms[j]? = some false := by
    obtain ⟨b, hb⟩ : ∃ b, ms[j]? = some b := ⟨_, List.getElem?_eq_getElem (by rw [h.len]; exact hj)⟩
    cases b with
    | false => exact hb
    | true => exact absurd ((h.met j hj).1 hb) hjS
  refine ⟨j, hj, rfl, hms, ?_, by rw [List.length_set]; exact h.len, fun i hi => ?_⟩
  · rw [List.append_assoc]
    exact (List.Perm.append_left S hp.symm).trans h.all
  · rw [List.getElem?_set, List.map_append, List.mem_append]
    by_cases e : j = i
    · subst e
      rw [if_pos rfl, if_pos (by rw [h.len]; exact hj)]
      simp
    · rw [if_neg e, h.met i hi]
      constructor
      · exact fun q => Or.inl q
      · intro q
        rcases q with q | q
        · exact q
        · have q : (i : Int) = (j : Int) := by simpa using q
          omega
theorem HP.In.keep2 {down : Bool} {w0 w w' : World} {bp bd : Nat} {C : List (Int × Int)} {F : Nat → Prop} (h : HP.In down w0 w bp bd C) (k : Keep F w w') (hF : ∀ b, F b → w0.heap.size ≤ b ∧ b ≠ bd ∧ ∃ (cur : Array Value) (T : TypeId), w.heap[b]? = some (.cells cur T (0, 0)) ∧ T ≠ 70 ∧ T ≠ 67) : HP.In down w0 w' bp bd C := by
  obtain ⟨G, ⟨A, n, c, q1, q2, q3⟩, h2, h3⟩ := h
  refine ⟨G, ⟨A, n, c, Arr.keep q1 k (fun q => ?_), Arr.keep q2 k (fun q => (hF bd q).2.1 rfl), q3.same fun b hb => k.block b (q3.lt b hb) (fun q => ?_)⟩, h2, k.below (fun b hb => (hF b hb).1) h3 h3.size⟩
  · obtain ⟨_, _, cur, T, q4, q5, q6⟩ := hF bp q
    exact arr_ne q1 q4 q6.symm
  · obtain ⟨_, _, cur, T, q4, q5, _⟩ := hF b q
    obtain ⟨cu, q8⟩ := q3.kind b hb
    rw [q4] at q8
    injection q8 with q8
    injection q8 with _ q8
    exact q5 q8
theorem HP.In.less {down : Bool} {w0 w : World} {bp bd : Nat} {C : List (Int × Int)} (h : HP.In down w0 w bp bd C) : Arr w bd 4 [.bool down] := by
  obtain ⟨G, ⟨A, n, c, q1, q2, q3⟩, h2, h3⟩ := h; exact q2
theorem Try.info_bool8 : (Try.prog.info? 4).map (fun i => (i.zero, i.size, i.bytes)) = some (some (.bool false), 1, 1) := by kernel_rfl
theorem made_bools (n : Nat) : (madeCells (Value.bool false).cells (n * 1)).toList = bvals (List.replicate n false) := by
  apply List.ext_getElem?
  intro i
  unfold madeCells bvals
  simp [Value.cells, List.getElem?_replicate]
  by_cases h : i < n
  · rw [List.getElem?_range h]
    simp [h, Nat.mod_one]
  · rw [List.getElem?_eq_none (by simp; omega)]
    simp [h]
theorem make_bools (w : World) {ops : Array Oper} {rs : List Oper} {o : Oper} {a : Act} {Q : Exit → Act → World → Prop} (hgd : o.guard = none)
    (l c : Operand) (ho : o.op = .makeSlice 42 l c) (n : Nat) (hl : a.eval l = .int .i64 n) (hc : a.eval c = .int .i64 n) (hn : n ≤ 1000000)
    (h : ∀ w', Arr w' w.heap.size 4 (bvals (List.replicate n false)) → Below w.heap.size w w' → wpList Try.prog ops Q rs (a.put o.dst (.slice (some ⟨w.heap.size, 0, none⟩) n n)) w') :
    wpList Try.prog ops Q (o :: rs) a w := by
  obtain ⟨i0, hi, hz0, hz1, hz2⟩ := info_parts Try.info_bool8
  refine wpList_make_full w hgd l c 42 ho w.heap.size 4 i0 (.bool false) 1 Try.underlying42 hi hz0 hz1 .i64 .i64 n n n hl hc rfl rfl (by rw [hz2]; omega) (by unfold maxLen; omega) (Nat.le_refl _) ?_
  intro w' h1 h2
  rw [made_bools] at h1
  refine h w' ?_ (Below.grown (Below.refl _ _) h2 (Nat.le_refl _) (fun k hk => by cases hk))
  rcases h1.2 with ⟨e, _⟩ | ⟨g, cap, cur, e, _, q2, q3, q4, q5, q6⟩
  · cases e
  · injection e with e _ e2
    injection e with e
    injection e with e
    subst e e2
    unfold Arr
    rw [q2]
    congr 2
    apply Array.ext'
    rw [List.toList_toArray, ← q6, List.take_of_length_le (by rw [Array.length_toList, q5]; exact Nat.le_refl _)]
set_option maxHeartbeats 4000000 in
theorem hpairs_any (A : Option Addr) (len cap : Nat) (zs : List Int) (down : Bool) (w : World) (hr : RA w A len cap zs) (hz : len ≤ zs.length) : Calls Try.prog 5 #[.slice A len cap, .bool down] w fun e w' => e = .returned (.bool true) ∧ Below w.heap.size w w' := by
  obtain ⟨h1, h2, h3⟩ := hr
  unfold maxLen at h2
  have R := Lib.hid h3
  have LB := Lib.hid (Arr.new w 4 [.bool down])
  have BB := Lib.hid ((Below.refl _ w).alloc (Nat.le_refl _) (.cells #[.bool down] 4))
  have N1 := Lib.hid (HP.new_in down w.heap.size w _ LB.out BB.out)
  clear h3
  unfold HP.fv at N1
  go_enter Try.func5, Try.ntmps5
  go_wp2_with fail
  refine N1.out.mono ?_
  rintro e w1 ⟨rfl, in1, b1⟩
  obtain ⟨bd, hbd⟩ : ∃ b, b = w.heap.size := ⟨_, rfl⟩
  obtain ⟨bp, hbp⟩ : ∃ b, b = (w.alloc (.cells #[.bool down] 4)).heap.size := ⟨_, rfl⟩
  rw [← hbp, ← hbd] at in1
  have I1 := Lib.hid in1
  rw [← hbp, ← hbd]
  have HBD := Lib.hid hbd
  clear N1 in1 b1 LB BB hbp hbd
  go_wp2_with fail
  obtain ⟨n, hn⟩ : ∃ n, min len 40 = n := ⟨_, rfl⟩
  have hn1 : n ≤ len := by omega
  have hn2 : n ≤ 40 := by omega
  have m1 : max (min (len : Int) 40) 0 = (n : Int) := by omega
  have m2 : (min (len : Int) 40).toNat = n := by omega
  have m3 : min (len : Int) 40 = (n : Int) := by omega
  rw [m1, m2, m3]
  clear hn m1 m2 m3
  obtain ⟨own, ho⟩ : ∃ own, own = zs.take n := ⟨_, rfl⟩
  have OL : Hid (own.length = n) := Lib.hid (by rw [ho, List.length_take]; omega)
  have OR : Hid (∀ j, j < n → ∃ b o, A = some ⟨b, o, none⟩ ∧ b < w.heap.size ∧ w.cell? ⟨b, o + j, none⟩ = some (.int .i64 (own.getD j 0))) := Lib.hid (fun j hj => by
    obtain ⟨b, o, q1, q2, q3, _⟩ := R.out j (by omega)
    refine ⟨b, o, q1, q2, ?_⟩
    rw [q3, ho, List.getD_eq_getElem?_getD, List.getD_eq_getElem?_getD, List.getElem?_take, if_pos hj])
  clear ho R
  go_loopw [7, 8, 27] (fun _ _ jv wr => ∃ (j : Nat) (C : List (Int × Int)), j ≤ n ∧ jv = .int .i64 j ∧ HP.In down w wr bp bd C ∧ C.Perm (prs own j)) (fun _ _ jv _ => n - (intOf jv).toNat)
  case atStart => exact ⟨0, [], Nat.zero_le _, rfl, by obtain ⟨G, q1, q2, q3⟩ := I1.out; exact ⟨G, q1, fun b hb => by have := q2 b hb; omega, by have := q3; exact this⟩, List.Perm.refl _⟩
  case round =>
    clear I1
    obtain ⟨j, C, hj, rfl, hin, hp⟩ := hrel
    by_cases hlt : j < n
    · obtain ⟨g, o, rfl, hgl, z0⟩ := OR.out j hlt
      obtain ⟨v, hv⟩ : ∃ v, own.getD j 0 = v := ⟨_, rfl⟩
      rw [hv] at z0
      have f0 : wr.cell? ⟨g, o + j, none⟩ = some (.int .i64 v) := by rw [hin.bel.cell (p := ⟨g, o + j, none⟩) hgl]; exact z0
      have hC : C.length = j := by rw [hp.length_eq, prs_len]
      have i1 : decide ((j : Int) < (n : Int)) = true := by rw [decide_eq_true_eq]; omega
      have i2 : (j : Int) < (n : Int) := by omega
      have PU := Lib.hid (HP.push_in down bp bd C (v, (j : Int)) w wr hin (by omega))
      have HP0 := Lib.hid hp; have HV := Lib.hid hv
      clear z0 hin hp hv
      go_wp2_with fail
      refine PU.out.mono ?_
      rintro e w3 ⟨rfl, C', in3, p3, ap3⟩
      have IN3 := Lib.hid in3
      have P3 : Hid (C'.Perm (prs own (j + 1))) := Lib.hid (by
        rw [prs_succ, HV.out]
        exact p3.trans (List.Perm.append_right _ HP0.out))
      clear in3 p3 ap3 PU
      go_wp2_with fail
      go_roundw
      case rel => first | exact ⟨j + 1, C', by omega, by go_num, IN3.out, P3.out⟩ | ((repeat apply Exists.intro); exact ⟨⟨j + 1, C', by omega, by go_num, IN3.out, P3.out⟩, rfl⟩)
      case measure => simp [intOf]; omega
    · obtain rfl : j = n := by omega
      have i1 : decide ((j : Int) < (j : Int)) = false := by simp
      have IN := Lib.hid hin; have M0 := Lib.hid (MetI.start hp)
      clear hin hp
      go_wp2_with (with_reducible refine make_bools _ rfl _ _ rfl j rfl rfl (by omega) ?_)
      intro w3 a3 b3
      obtain ⟨gm, hgm⟩ : ∃ g, g = wr.heap.size := ⟨_, rfl⟩
      rw [← hgm] at a3 ⊢
      have I3 := Lib.hid (IN.out.older b3)
      have A3 := Lib.hid a3
      have hgw : w.heap.size ≤ gm := by have := IN.out.bel.size; omega
      have hgd : gm ≠ bd := by have := Arr.lt IN.out.less; omega
      clear a3 b3 IN hgm
      go_wp2_with fail
      obtain ⟨w4, hw4⟩ : ∃ W, W = w3.alloc (.cells #[.int .i64 0, .int .i64 0] 39) := ⟨_, rfl⟩
      obtain ⟨bw, hbw⟩ : ∃ b, b = w3.heap.size := ⟨_, rfl⟩
      have B4 : Hid (Below w3.heap.size w3 w4) := Lib.hid (by rw [hw4]; exact (Below.refl _ _).alloc (Nat.le_refl _) _)
      have I4 := Lib.hid (I3.out.older B4.out)
      have A4 := Lib.hid (Arr.below A3.out B4.out)
      have W4 : Hid (PrV w4 bw (0, 0)) := Lib.hid (by rw [hw4, hbw]; exact Arr.new w3 _ [_, _])
      have hbww : w.heap.size ≤ bw := by have := I3.out.bel.size; omega
      rw [← hw4, ← hbw]
      clear hw4 hbw B4 I3 A3
      go_loopw [11, 12, 13, 44] (fun _ _ _ iv wr => ∃ (i : Nat) (S C : List (Int × Int)) (ms : List Bool) (was : Int × Int), i ≤ j ∧ iv = .int .i64 i ∧ HP.In down w wr bp bd C ∧ Arr wr gm 4 (bvals ms) ∧ PrV wr bw was ∧ MetI own j S C ms ∧ C.length = j - i ∧ (0 < i → ∀ y, y ∈ C → (HP.K down).key was ≤ (HP.K down).key y)) (fun _ _ _ iv _ => j - (intOf iv).toNat)
      case atStart => exact ⟨0, [], C, _, (0, 0), Nat.zero_le _, rfl, I4.out, A4.out, W4.out, M0.out, by have := M0.out.all.length_eq; rw [prs_len] at this; simpa using this, fun h => absurd h (Nat.lt_irrefl 0)⟩
      case round =>
        clear I4 A4 W4 M0
        obtain ⟨i, S, C, ms, was, hi, rfl, hin, ha, hw, hm, hl, hord⟩ := hrel
        have IN := Lib.hid hin; have AM := Lib.hid ha; have WS := Lib.hid hw; have MI := Lib.hid hm; have OD := Lib.hid hord
        by_cases hlt2 : i < j
        · have k1 : decide ((i : Int) < (j : Int)) = true := by rw [decide_eq_true_eq]; omega
          have hne : C ≠ [] := fun e => by rw [e] at hl; simp at hl; omega
          have PO := Lib.hid (HP.pop_in down bp bd C w wr hin hne (by omega))
          clear hin ha hw hm hord
          go_wp2_with fail
          refine PO.out.mono ?_
          rintro e w5 ⟨x, C', rfl, lx, in5, p5, ap5⟩
          obtain ⟨k, hk, hx, hms, hmi⟩ := MI.out.pop lx.1 p5
          obtain ⟨v, hv⟩ : ∃ v, own.getD k 0 = v := ⟨_, rfl⟩
          rw [hv] at hx
          subst hx
          obtain ⟨w6, hw6⟩ : ∃ W, W = w5.alloc (.cells #[.int .i64 v, .int .i64 (k : Int)] 39) := ⟨_, rfl⟩
          obtain ⟨bx, hbx⟩ : ∃ b, b = w5.heap.size := ⟨_, rfl⟩
          have B6 : Hid (Below w5.heap.size w5 w6) := Lib.hid (by rw [hw6]; exact (Below.refl _ _).alloc (Nat.le_refl _) _)
          have I6 := Lib.hid (in5.older B6.out)
          have X6 : Hid (PrV w6 bx (v, (k : Int))) := Lib.hid (by rw [hw6, hbx]; exact Arr.new w5 _ [_, _])
          have A5 := Arr.same AM.out (ap5.2 gm _ _ AM.out (by decide) (by decide))
          have W5 := Arr.same WS.out (ap5.2 bw _ _ WS.out (by decide) (by decide))
          have A6 := Lib.hid (Arr.below A5 B6.out)
          have W6 : Hid (PrV w6 bw was) := Lib.hid (Arr.below W5 B6.out)
          have hxw : bx ≠ bw := by have := Arr.lt W5; omega
          have hxm : bx ≠ gm := by have := Arr.lt A5; omega
          have hwm : bw ≠ gm := fun q => by subst q; exact arr_ne W5 A5 (by decide)
          have M6 := Lib.hid hmi
          have L6 : Hid (C'.length = j - (i + 1)) := Lib.hid (by have := p5.length_eq; simp at this; omega)
          have O6 : Hid (∀ y, y ∈ C' → (HP.K down).key (v, (k : Int)) ≤ (HP.K down).key y) := Lib.hid (fun y hy => lx.2 y (p5.symm.subset (by simp [hy])))
          have WX : Hid (0 < i → (HP.K down).key was ≤ (HP.K down).key (v, (k : Int))) := Lib.hid (fun h => OD.out h _ lx.1)
          obtain ⟨g, o, rfl, hgl, z0⟩ := OR.out k hk
          rw [hv] at z0
          have c0 : w6.cell? ⟨g, o + k, none⟩ = some (.int .i64 v) := by rw [I6.out.bel.cell (p := ⟨g, o + k, none⟩) hgl]; exact z0
          have c1 : w6.cell? ⟨gm, k, none⟩ = some (.bool false) := by rw [Arr.cell A6.out k]; unfold bvals; rw [List.getElem?_map, hms]; rfl
          have c1f : w6.frozen? ⟨gm, k, none⟩ = false := Arr.frozen A6.out k
          have x0 : w6.cell? ⟨bx, 0, none⟩ = some (.int .i64 v) := Arr.cell X6.out 0
          have x1 : w6.cell? ⟨bx, 1, none⟩ = some (.int .i64 (k : Int)) := Arr.cell X6.out 1
          have y0 : w6.cell? ⟨bw, 0, none⟩ = some (.int .i64 was.1) := Arr.cell W6.out 0
          have y1 : w6.cell? ⟨bw, 1, none⟩ = some (.int .i64 was.2) := Arr.cell W6.out 1
          have y2 : w6.frozen? ⟨bw, 0, none⟩ = false := Arr.frozen W6.out 0
          have y3 : w6.frozen? ⟨bw, 1, none⟩ = false := Arr.frozen W6.out 1
          have d0 : w6.cell? ⟨bd, 0, none⟩ = some (.bool down) := Arr.cell I6.out.less 0
          have e1 : decide ((k : Int) < 0) = false := by rw [decide_eq_false_iff_not]; omega
          have e2 : decide ((k : Int) ≥ (j : Int)) = false := by rw [decide_eq_false_iff_not]; omega
          have e3 : decide ((j : Int) ≤ (k : Int)) = false := by rw [decide_eq_false_iff_not]; omega
          have e4 : (v != v) = false := by simp
          have e5 : (0 : Int) ≤ (k : Int) := by omega
          have e6 : (k : Int) < (j : Int) := by omega
          go_upto_region 16 with fail
          rw [← hw6, ← hbx]
          clear hw6 hbx B6 A5 W5 in5 p5 ap5 lx hmi hms z0 PO hv
          go_wp2_with fail
          go_quiet (fail)
          have F : Hid (HP.In down w (((((w6.drewN nq).drew).setCell ⟨gm, k, none⟩ (.bool true)).setCell ⟨bw, 0, none⟩ (.int .i64 v)).setCell ⟨bw, 1, none⟩ (.int .i64 (k : Int))) bp bd C' ∧ Arr (((((w6.drewN nq).drew).setCell ⟨gm, k, none⟩ (.bool true)).setCell ⟨bw, 0, none⟩ (.int .i64 v)).setCell ⟨bw, 1, none⟩ (.int .i64 (k : Int))) gm 4 (bvals (ms.set k true)) ∧ PrV (((((w6.drewN nq).drew).setCell ⟨gm, k, none⟩ (.bool true)).setCell ⟨bw, 0, none⟩ (.int .i64 v)).setCell ⟨bw, 1, none⟩ (.int .i64 (k : Int))) bw (v, (k : Int))) := Lib.hid (by
            have b7 : Below w6.heap.size w6 ((w6.drewN nq).drew) := (belowN w6 nq).drew
            have i7 := I6.out.older b7
            have a7 := Arr.below A6.out b7
            have p7 : PrV ((w6.drewN nq).drew) bw was := Arr.below W6.out b7
            refine ⟨i7.keep2 (F := fun b => b = gm ∨ b = bw) ⟨rfl, rfl, rfl, by simp [World.setCell], fun q hq hn => by rw [heap_setCell_other _ _ q _ (fun e => hn (Or.inr e)), heap_setCell_other _ _ q _ (fun e => hn (Or.inr e)), heap_setCell_other _ _ q _ (fun e => hn (Or.inl e))]⟩ (fun b hb => ?_), ?_, PrV.set (Arr.far p7 hwm _) (v, (k : Int))⟩
            · rcases hb with rfl | rfl
              · exact ⟨hgw, hgd, _, _, a7, by decide, by decide⟩
              · exact ⟨hbww, fun q => by subst q; exact arr_ne p7 i7.less (by decide), _, _, p7, by decide, by decide⟩
            · rw [← bvals_set]
              exact Arr.far (Arr.far (Arr.set a7 k _) (fun q => hwm q.symm) _) (fun q => hwm q.symm) _)
          go_upto_region 18 with fail
          by_cases hi0 : 0 < i
          · have i0 : decide ((i : Int) > 0) = true := by rw [decide_eq_true_eq]; omega
            have i00 : (0 : Int) < (i : Int) := by omega
            have WX2 := WX.out hi0
            cases down with
            | false =>
              have WX3 : was.1 ≤ v := by simpa [HP.K] using WX2
              have t1 : decide (v < was.1) = false := by rw [decide_eq_false_iff_not]; omega
              have t2 : decide (v > was.1) = decide (was.1 < v) := rfl
              clear WX2
              go_wp2_with fail
              go_region
              all_goals
                go_wp2_with fail
                go_roundw
                case rel => first | exact ⟨i + 1, _, C', _, (v, (k : Int)), by omega, by go_num, F.out.1, F.out.2.1, F.out.2.2, M6.out, L6.out, fun _ => O6.out⟩ | ((repeat apply Exists.intro); exact ⟨⟨i + 1, _, C', _, (v, (k : Int)), by omega, by go_num, F.out.1, F.out.2.1, F.out.2.2, M6.out, L6.out, fun _ => O6.out⟩, rfl⟩)
                case measure => simp [intOf]; omega
            | true =>
              have WX3 : v ≤ was.1 := by simpa [HP.K] using WX2
              have t1 : decide (v > was.1) = false := by rw [decide_eq_false_iff_not]; omega
              have t2 : decide (was.1 < v) = false := by rw [decide_eq_false_iff_not]; omega
              clear WX2
              go_wp2_with fail
              go_region
              all_goals
                go_wp2_with fail
                go_roundw
                case rel => first | exact ⟨i + 1, _, C', _, (v, (k : Int)), by omega, by go_num, F.out.1, F.out.2.1, F.out.2.2, M6.out, L6.out, fun _ => O6.out⟩ | ((repeat apply Exists.intro); exact ⟨⟨i + 1, _, C', _, (v, (k : Int)), by omega, by go_num, F.out.1, F.out.2.1, F.out.2.2, M6.out, L6.out, fun _ => O6.out⟩, rfl⟩)
                case measure => simp [intOf]; omega
          · have i0 : decide ((i : Int) > 0) = false := by rw [decide_eq_false_iff_not]; omega
            go_wp2_with fail
            go_region
            all_goals
              go_wp2_with fail
              go_roundw
              case rel => first | exact ⟨i + 1, _, C', _, (v, (k : Int)), by omega, by go_num, F.out.1, F.out.2.1, F.out.2.2, M6.out, L6.out, fun _ => O6.out⟩ | ((repeat apply Exists.intro); exact ⟨⟨i + 1, _, C', _, (v, (k : Int)), by omega, by go_num, F.out.1, F.out.2.1, F.out.2.2, M6.out, L6.out, fun _ => O6.out⟩, rfl⟩)
              case measure => simp [intOf]; omega
        · obtain rfl : i = j := by omega
          have k1 : decide ((i : Int) < (i : Int)) = false := by simp
          have hC : C = [] := List.eq_nil_of_length_eq_zero (by omega)
          subst hC
          have NP := Lib.hid (HP.nop_in down bp bd w wr hin)
          clear hin ha hw hm hord
          go_wp2_with fail
          refine NP.out.mono ?_
          rintro e w5 ⟨rfl, b5⟩
          have I5 := Lib.hid (IN.out.older b5)
          have BA5 := Lib.hid ((Below.refl _ w5).alloc (Nat.le_refl _) (.cells #[.int .i64 0, .int .i64 0] 39))
          have HRU := Lib.hid (hruns_any (w5.alloc (.cells #[.int .i64 0, .int .i64 0] 39)))
          clear b5 NP
          go_wp2_with fail
          refine HRU.out.mono ?_
          rintro e w6 ⟨rfl, b6⟩
          have B6 := Lib.hid (bstep (bstep I5.out.bel BA5.out) b6)
          clear b6
          go_wp2_with fail
          go_ret
          exact ⟨rfl, B6.out⟩
end Go.Proofs.Ytkgjbmlgbfejlaa
