/-
  The contract of package catalog's lastOnes: the last file of each name, by rising names, in new memory.
-/
import Derived.Test.YtjiigbmfbmkhjaaCSi
namespace Go.Proofs.Ytjiigbmfbmkhjaa
set_option linter.unusedVariables false
set_option linter.unusedSimpArgs false
set_option maxRecDepth 100000
open Go.RowKit

def isLast (s : List Fl) (j : Nat) : Bool := decide (j + 1 = s.length) || !decide ((flAt s (j + 1)).name = (flAt s j).name)
def lastsTo (s : List Fl) (i : Nat) : List Fl := ((List.range i).filter (isLast s)).map (flAt s)
theorem lastsTo_succ (s : List Fl) (i : Nat) : lastsTo s (i + 1) = lastsTo s i ++ (if isLast s i then [flAt s i] else []) := by
  unfold lastsTo
  rw [List.range_succ, List.filter_append, List.map_append, List.filter_cons]
  split <;> rfl
theorem isLast_cons (x : Fl) (s : List Fl) (j : Nat) : isLast (x :: s) (j + 1) = isLast s j := by
  unfold isLast
  have e : decide (j + 1 + 1 = (x :: s).length) = decide (j + 1 = s.length) := by rw [decide_eq_decide, List.length_cons]; omega
  rw [e]
  rfl
theorem lastsTo_cons (x : Fl) (s : List Fl) (i : Nat) : lastsTo (x :: s) (i + 1) = (if isLast (x :: s) 0 then [x] else []) ++ lastsTo s i := by
  unfold lastsTo
  rw [List.range_succ_eq_map, List.filter_cons, List.filter_map]
  have e : (isLast (x :: s) ∘ Nat.succ) = isLast s := by funext j; exact isLast_cons x s j
  have e2 : ∀ l : List Nat, (l.map Nat.succ).map (flAt (x :: s)) = l.map (flAt s) := fun l => by rw [List.map_map]; rfl
  rw [e]
  split
  · rw [List.map_cons, e2]; rfl
  · rw [e2]; rfl
theorem lasts_to : ∀ s : List Fl, lasts Fl.name s = lastsTo s s.length
  | [] => rfl
  | [x] => rfl
  | x :: y :: r => by
    have ih := lasts_to (y :: r)
    have e0 : lasts Fl.name (x :: y :: r) = if y.name = x.name then lasts Fl.name (y :: r) else x :: lasts Fl.name (y :: r) := by rw [lasts]
    rw [List.length_cons, lastsTo_cons, ← ih, e0]
    have e : isLast (x :: y :: r) 0 = !decide (y.name = x.name) := by
      unfold isLast
      have : decide (0 + 1 = (x :: y :: r).length) = false := by rw [decide_eq_false_iff_not, List.length_cons, List.length_cons]; omega
      rw [this]; rfl
    rw [e]
    by_cases h : y.name = x.name
    · rw [if_pos h, if_neg (by simp [h])]; rfl
    · rw [if_neg h, if_pos (by simp [h])]; rfl
theorem lastsTo_len (s : List Fl) (i : Nat) : (lastsTo s i).length ≤ i := by
  unfold lastsTo
  rw [List.length_map]
  have := List.length_filter_le (isLast s) (List.range i)
  rw [List.length_range] at this
  exact this
theorem FlKeep.below {A : Option Addr} {g B : Nat} {w0 w w' : World} (h : FlKeep A g w w') (hA : ∀ a, A = some a → B ≤ a.block) (hb : Below B w0 w) (hB : B ≤ w.heap.size) : Below B w0 w' :=
  h.1.below (fun k ⟨a, ha, hk⟩ => by rw [hk]; exact hA a ha) hb hB
theorem OwnF.fk {w w' : World} {base n cap g' : Nat} {A A3 : Option Addr} {l : List Fl} (h : OwnF w base A n cap l) (k : FlKeep A3 g' w w') (hne : ∀ a b, A = some a → A3 = some b → a.block ≠ b.block) : OwnF w' base A n cap l :=
  h.same (fun a ha => k.1.block a.block (h.lt a ha).2 (fun ⟨b, hb, e⟩ => hne a b ha hb e))
theorem OwnI.fk {w w' : World} {base n cap g' : Nat} {A A3 : Option Addr} {l : List Int} (h : OwnI w base A n cap l) (k : FlKeep A3 g' w w') (hne : ∀ a b, A = some a → A3 = some b → a.block ≠ b.block) : OwnI w' base A n cap l :=
  h.same (fun a ha => k.1.block a.block (h.lt a ha).2 (fun ⟨b, hb, e⟩ => hne a b ha hb e))
set_option maxHeartbeats 4000000 in
theorem lastO_any (l : List Fl) (N : Nat) (A : Option Addr) (n cap : Nat) (w : World) (hl : l.length = n) (hn : n ≤ 20) (h : FlR w N A l) (hN : N ≤ w.heap.size) :
    Calls Try.prog 27 #[.slice A n cap] w fun e w' => ∃ A' m c', e = .returned (.slice A' m c') ∧ OwnF w' w.heap.size A' m c' (lasts Fl.name (isort Fl.name l)) ∧ Below w.heap.size w w' := by
  have CL := Lib.hid (cloneF_any l N A n cap w hl (by omega) h hN)
  have SL : Hid ((isort Fl.name l).length = n) := Lib.hid (by rw [isort_length]; exact hl)
  have SOA : Hid (∀ A1 c1 w1, OwnF w1 w.heap.size A1 n c1 l → Calls Try.prog 31 #[.slice A1 n c1, .func (.func 32) #[] #[]] w1 fun e w' => e = .returned (.tuple #[]) ∧ OwnF w' w.heap.size A1 n c1 (isort Fl.name l) ∧ Keep (blockOf A1) w1 w') := Lib.hid (fun A1 c1 w1 o => sortF_any l w.heap.size A1 n c1 w1 hn o)
  obtain ⟨s, hs⟩ : ∃ s, isort Fl.name l = s := ⟨_, rfl⟩
  rw [hs] at SL SOA ⊢
  rw [lasts_to, SL.out]
  clear h hl hs
  go_enter Try.func27, Try.ntmps27
  go_wp2_with fail
  refine CL.out.mono ?_
  rintro e w1 ⟨A1, c1, rfl, o1, b1⟩
  have SO := Lib.hid (SOA.out A1 c1 w1 o1)
  have B1 := Lib.hid b1
  have hA1 : Hid (∀ a, A1 = some a → w.heap.size ≤ a.block) := Lib.hid (fun a ha => (o1.lt a ha).1)
  clear o1 b1 CL
  go_wp2_with fail
  refine SO.out.mono ?_
  rintro e w2 ⟨rfl, o2, k2⟩
  have O2 := Lib.hid o2
  have B2 := Lib.hid (k2.below (fun k ⟨a, ha, hk⟩ => by rw [hk]; exact hA1.out a ha) B1.out B1.out.size)
  clear o2 k2 SO
  clear SOA
  have hO2 : Hid (∀ a, A1 = some a → a.block < w2.heap.size) := Lib.hid (fun a ha => (O2.out.lt a ha).2)
  go_wp2
  go_loopw [4, 5, 6, 13] (fun lv _ _ iv wr => ∃ (i : Nat) (A3 : Option Addr) (m c3 : Nat), i ≤ n ∧ iv = .int .i64 i ∧ lv = .slice A3 m c3 ∧ OwnF wr w2.heap.size A3 m c3 (lastsTo s i) ∧ OwnF wr w.heap.size A1 n c1 s ∧ Below w2.heap.size w2 wr) (fun _ _ _ iv _ => n - (intOf iv).toNat)
  case atStart => exact ⟨0, none, 0, 0, Nat.zero_le _, rfl, rfl, OwnF.nil _ _, O2.out, Below.refl _ _⟩
  case round =>
    obtain ⟨i, A3, m, c3, hi, rfl, rfl, o3, ow, bw⟩ := hrel
    have O3 := Lib.hid o3; have OW := Lib.hid ow; have BW := Lib.hid bw
    have hml : m ≤ 20 := by have := o3.2.1; have := lastsTo_len s i; omega
    have hsz := bw.size
    clear o3 ow bw
    by_cases hlt : i < n
    · have i1 : decide ((i : Int) < (n : Int)) = true := by rw [decide_eq_true_eq]; omega
      obtain ⟨g1, e1, hgx⟩ := OW.out.1.at (by omega)
      subst e1
      clear hgx
      obtain ⟨z0, z1, z2, z3, fok⟩ := OW.out.cells4 i hlt
      have SN := Lib.hid (lastsTo_succ s i)
      have hg1 := (OW.out.lt _ rfl).2
      have hg12 : g1 < w2.heap.size := hO2.out _ rfl
      obtain ⟨f, hf⟩ : ∃ f, flAt s i = f := ⟨_, rfl⟩
      rw [hf] at z0 z1 z2 z3 fok SN
      obtain ⟨⟨n0, n1⟩, _⟩ := id fok
      have FOK := Lib.hid fok; have HF := Lib.hid hf
      have iw : IntKind.i64.wrap ((i : Int) + 1) = (i : Int) + 1 := IntWalk.i64_in _ (by omega)
      have bi : (i : Int) < (n : Int) := by omega
      clear hf fok
      go_upto_region 7 with fail
      obtain ⟨W, hW⟩ : ∃ W, W = wr.alloc (.cells #[.int .i64 f.name, .int .i64 f.file, .int .i64 f.first, .int .i64 f.blocks] 25) := ⟨_, rfl⟩
      rw [← hW]
      obtain ⟨g, hg⟩ : ∃ g, g = wr.heap.size := ⟨_, rfl⟩
      rw [← hg]
      have hbW : Below wr.heap.size wr W := by rw [hW]; exact (Below.refl _ _).alloc (Nat.le_refl _) _
      have LF : Hid (FlV W g f) := Lib.hid (by rw [hW, hg]; exact FlV.new wr f)
      have OW1 := Lib.hid (OW.out.below hbW)
      have O31 := Lib.hid (O3.out.below hbW)
      have BW1 := Lib.hid (bstep BW.out hbW)
      have hszW : w2.heap.size ≤ W.heap.size := by have := hbW.size; omega
      have hgne : g1 ≠ g := by
        have : g1 < wr.heap.size := hg1
        omega
      clear hW hg hbW z0 z1 z2 z3 OW O3 BW
      obtain ⟨y0, y1, y2, y3⟩ := LF.out.cells
      have tail : ∀ (q : Nat), Hid (OwnF (W.drewN q) w.heap.size (some ⟨g1, 0, none⟩) n c1 s ∧ OwnF (W.drewN q) w2.heap.size A3 m c3 (lastsTo s i) ∧ Below w2.heap.size w2 (W.drewN q)) := fun q => Lib.hid ⟨OW1.out.same (fun _ _ => rfl), O31.out.same (fun _ _ => rfl), ⟨BW1.out.os, BW1.out.tape, BW1.out.output, BW1.out.size, BW1.out.block⟩⟩
      by_cases hend : i + 1 = n
      · have e1 : decide ((i : Int) + 1 = (n : Int)) = true := by rw [decide_eq_true_eq]; omega
        have e2 : ((i : Int) + 1 == (n : Int)) = true := by rw [beq_iff_eq]; omega
        have SN2 : Hid (lastsTo s (i + 1) = lastsTo s i ++ [f]) := Lib.hid (by rw [SN.out, if_pos (by unfold isLast; rw [SL.out, hend]; simp)])
        clear hend
        go_wp2
        go_quiet (fail)
        go_wp2_with (at_builtin; go_loud (refine app_fl _ rfl _ _ rfl w2.heap.size m c3 A3 (lastsTo s i) rfl ((tail _).out.2.1.alloc _) W.heap.size 0 1 f rfl (FlAt4.new (W.drewN nq) f _ _) FOK.out (by omega) (by simp; omega) ?_))
        intro g' cap' w' o' fk
        have TQ := tail nq
        have O' : Hid (OwnF w' w2.heap.size (some ⟨g', 0, none⟩) (m + 1) cap' (lastsTo s (i + 1))) := Lib.hid (by rw [SN2.out]; exact o')
        have hA3 : ∀ a, A3 = some a → w2.heap.size ≤ a.block := fun a ha => (O31.out.lt a ha).1
        have OW' := Lib.hid ((TQ.out.1.alloc _).fk fk (fun a b ha hb => by injection ha with ha; subst ha; have := hA3 b hb; show g1 ≠ b.block; omega))
        have BW' := Lib.hid (fk.below hA3 (TQ.out.2.2.alloc (by exact hszW) _) (by simp; omega))
        clear o' fk hA3 TQ
        go_wp2
        go_roundw
        case rel => exact ⟨i + 1, some ⟨g', 0, none⟩, m + 1, cap', by omega, by go_num, rfl, O'.out, OW'.out, BW'.out⟩
        case measure => simp [intOf]; omega
      · have e1 : decide ((i : Int) + 1 = (n : Int)) = false := by rw [decide_eq_false_iff_not]; omega
        have e2 : ((i : Int) + 1 == (n : Int)) = false := by rw [beq_eq_false_iff_ne]; omega
        have hlt2 : i + 1 < n := by omega
        have bi2 : (i : Int) + 1 < (n : Int) := by omega
        have bi0 : (0 : Int) ≤ (i : Int) + 1 := by omega
        obtain ⟨v0, _⟩ := OW1.out.cells4 (i + 1) hlt2
        have vok := (OW1.out.2.2 (i + 1) (by rw [SL.out]; omega)).a
        obtain ⟨nx, hnx⟩ : ∃ nx, (flAt s (i + 1)).name = nx := ⟨_, rfl⟩
        rw [hnx] at v0 vok
        obtain ⟨k0, k1⟩ := vok
        by_cases hne : nx = f.name
        · have d1 : decide (nx = f.name) = true := by rw [decide_eq_true_eq]; exact hne
          have d2 : (nx == f.name) = true := by rw [beq_iff_eq]; exact hne
          have d3 : (nx != f.name) = false := by rw [bne_eq_false_iff_eq]; exact hne
          have SN2 : Hid (lastsTo s (i + 1) = lastsTo s i) := Lib.hid (by rw [SN.out, if_neg, List.append_nil]; unfold isLast; rw [SL.out, HF.out, hnx, hne]; simp; omega)
          clear hnx hne hend
          go_wp2
          go_quiet (fail)
          go_wp2
          go_roundw
          case rel => exact ⟨i + 1, A3, m, c3, by omega, by go_num, rfl, by rw [SN2.out]; exact (tail nq).out.2.1, (tail nq).out.1, (tail nq).out.2.2⟩
          case measure => simp [intOf]; omega
        · have d1 : decide (nx = f.name) = false := by rw [decide_eq_false_iff_not]; exact hne
          have d2 : (nx == f.name) = false := by rw [beq_eq_false_iff_ne]; exact hne
          have d3 : (nx != f.name) = true := by rw [bne_iff_ne]; exact hne
          have SN2 : Hid (lastsTo s (i + 1) = lastsTo s i ++ [f]) := Lib.hid (by rw [SN.out, if_pos]; unfold isLast; rw [HF.out, hnx]; simp [hne])
          clear hnx hne hend
          go_wp2
          go_quiet (fail)
          go_wp2_with (at_builtin; go_loud (refine app_fl _ rfl _ _ rfl w2.heap.size m c3 A3 (lastsTo s i) rfl ((tail _).out.2.1.alloc _) W.heap.size 0 1 f rfl (FlAt4.new (W.drewN nq) f _ _) FOK.out (by omega) (by simp; omega) ?_))
          intro g' cap' w' o' fk
          have TQ := tail nq
          have O' : Hid (OwnF w' w2.heap.size (some ⟨g', 0, none⟩) (m + 1) cap' (lastsTo s (i + 1))) := Lib.hid (by rw [SN2.out]; exact o')
          have hA3 : ∀ a, A3 = some a → w2.heap.size ≤ a.block := fun a ha => (O31.out.lt a ha).1
          have OW' := Lib.hid ((TQ.out.1.alloc _).fk fk (fun a b ha hb => by injection ha with ha; subst ha; have := hA3 b hb; show g1 ≠ b.block; omega))
          have BW' := Lib.hid (fk.below hA3 (TQ.out.2.2.alloc (by exact hszW) _) (by simp; omega))
          clear o' fk hA3 TQ
          go_wp2
          go_roundw
          case rel => exact ⟨i + 1, some ⟨g', 0, none⟩, m + 1, cap', by omega, by go_num, rfl, O'.out, OW'.out, BW'.out⟩
          case measure => simp [intOf]; omega
    · obtain rfl : i = n := by omega
      have i1 : decide ((i : Int) < (i : Int)) = false := by simp
      go_wp2
      go_ret
      exact ⟨A3, m, c3, rfl, O3.out.weak (fun a ha => by have := (O3.out.lt a ha).1; have := B2.out.size; omega), bstep B2.out BW.out⟩
end Go.Proofs.Ytjiigbmfbmkhjaa
