/-
  The contract of package catalog's Get: what the leaf's bytes say, if Put gives the leaf again.
  Package store: the catalog that a slot has; the disk's Off.
  Package store: Catalog: what was committed last.
-/
import Derived.Test.YtilmicekpclmbaaZC
import Derived.Test.YtilmicekpclmbaaCPd
import Derived.Test.YtilmicekpclmbaaSn
import Derived.Test.YtilmicekpclmbaaZB
import Derived.Test.YtilmicekpclmbaaZw
namespace Go.Proofs.Ytilmicekpclmbaa
set_option linter.unusedVariables false
set_option linter.unusedSimpArgs false
set_option maxRecDepth 100000
open Go.RowKit

theorem num4_bd {w : World} {N : Nat} {A : Option Addr} {ys : List Int} (h : RdB w N A ys) (k : Nat) (hk : k + 3 < ys.length) : I64x (num4 ys k) := by
  have h0 := h.u8 k (by omega); have h1 := h.u8 (k + 1) (by omega); have h2 := h.u8 (k + 2) (by omega); have h3 := h.u8 (k + 3) hk
  unfold U8 at h0 h1 h2 h3
  unfold num4
  exact ⟨by omega, by omega⟩
theorem rdC_ok {w : World} {N : Nat} {A : Option Addr} {ys : List Int} (h : RdB w N A ys) (hk : 17 ≤ ys.length) : (rdC ys).Ok := by
  have u : ∀ k, k < ys.length → I64x (ys.getD k 0) := fun k hk => by
    have := h.u8 k hk; unfold U8 at this; exact ⟨by omega, by omega⟩
  exact ⟨num4_bd h 0 (by omega), u 4 (by omega), u 5 (by omega), ⟨num4_bd h 9 (by omega), num4_bd h 13 (by omega), u 7 (by omega), u 8 (by omega)⟩⟩
theorem gotC_far {L : Lf} (h : ¬ (17 ≤ L.size ∧ L.size ≤ 116)) : gotC L = Ct.zero ∧ gotK L = false := gotC_none fun q => h ⟨q.s, q.r.s.2⟩
theorem gotC_yes {L : Lf} (hs : 17 ≤ L.size) (h : (unCt L).putL = L) : gotC L = unCt L ∧ gotK L = true := by
  have hr : (unCt L).Right := by
    refine Classical.byContradiction fun hn => ?_
    rw [Ct.putL_no hn] at h
    rw [← h] at hs
    exact absurd hs (by decide)
  rw [Ct.putL_yes hr] at h
  have e := getCt_leaf hr
  rw [h] at e
  unfold gotC gotK
  rw [e]
  exact ⟨rfl, rfl⟩
theorem gotC_not {L : Lf} (ok : L.Ok) (h : ¬ (unCt L).putL = L) : gotC L = Ct.zero ∧ gotK L = false := by
  refine gotC_none fun q => h ?_
  have e : getCt L = some (unCt L) := by unfold getCt; rw [if_pos q]
  obtain ⟨hr, hl⟩ := getCt_some ok e
  rw [Ct.putL_yes hr, hl]
section
variable {o : Oper} {a : Act} {w : World}
theorem exec_load_ct {x : Operand} (ho : o.op = .load 37 x) {b : Nat} {c : Ct} {A : Option Addr} {n k : Nat} (h : CtAt w b c A n k) (hx : a.eval x = .pointer (some ⟨b, 0, none⟩)) : (execOp a.eval o).run Try.prog w = .ok (.value (.agg (ctv c A n k).toArray)) w := by
  unfold execOp
  simp only [ho, hx, Instr.loadAt, Instr.sureAddr, Sem.run_bind, Sem.run_pure, Result.andThen_ok, load_ct_run h]
theorem exec_load_lf {x : Operand} (ho : o.op = .load 91 x) {b : Nat} {L : Lf} (h : LfAt w b L) (hx : a.eval x = .pointer (some ⟨b, 0, none⟩)) : (execOp a.eval o).run Try.prog w = .ok (.value (.agg (lv L).toArray)) w := by
  unfold execOp
  simp only [ho, hx, loadLf_eq, loadLf_run h, Sem.run_bind, Sem.run_pure, Result.andThen_ok]
theorem exec_neq_lf {x y : Operand} {t : TypeId} (ho : o.op = .binOp .neq 91 x y t) {L M : Lf} (hl : L.Ok) (hm : M.Ok) (hx : a.eval x = .agg (lv L).toArray) (hy : a.eval y = .agg (lv M).toArray) : (execOp a.eval o).run Try.prog w = .ok (.value (.bool (!decide (L = M)))) w := by
  unfold execOp
  simp only [ho, hx, hy, neqLf_eq, lf_guard, neqLf_run hl hm, Sem.run_bind, Sem.run_pure, Result.andThen_ok]
end
set_option maxHeartbeats 4000000 in
theorem getc_any (L : Lf) (ok : L.Ok) (w : World) :
    Calls Try.prog 50 #[.agg (lv L).toArray] w (GetC w L) := by
  have OK := Lib.hid ok
  obtain ⟨sb0, sb1⟩ := ok.s
  clear ok
  go_enter Try.func50, Try.ntmps50
  go_wp2_with (with_reducible refine box_leaf rfl _ rfl L OK.out rfl ?_)
  intro w1 l1 b1 s1
  obtain ⟨b, hb⟩ : ∃ b, b = w.heap.size := ⟨_, rfl⟩
  rw [← hb] at l1 ⊢
  have A1 := Lib.hid l1; have B1 := Lib.hid b1
  have hbw : w.heap.size ≤ b := by omega
  clear hb b1 s1 l1
  go_wp2_with (with_reducible refine alloc_ct rfl rfl ?_)
  intro w2 l2 b2 s2
  obtain ⟨r, hr⟩ : ∃ r, r = w1.heap.size := ⟨_, rfl⟩
  rw [← hr] at l2 ⊢
  have Z2 := Lib.hid l2
  have A2 := Lib.hid (A1.out.below b2)
  have B2 := Lib.hid (bstep B1.out b2)
  have hbr : b < r := by rw [hr]; exact A1.out.lt
  have hrw : w.heap.size ≤ r := by omega
  have c4 := A2.out.size
  clear hr b2 s2 l2 A1 B1
  have TW := Lib.hid (within_any L.size 17 116 ⟨sb0, sb1⟩ ⟨by decide, by decide⟩ ⟨by decide, by decide⟩ w2)
  go_wp2_with fail
  refine TW.out.mono ?_
  rintro e w3 ⟨rfl, rfl⟩
  clear TW
  cases hq : inB L.size 17 116
  · have GG := Lib.hid (gotC_far (inB_no.1 hq))
    clear hq
    go_wp2_with (first | (with_reducible refine build_ct0 rfl rfl ?_) | (with_reducible refine store_ct rfl _ _ rfl r Ct.zero Ct.zero none none 0 0 0 0 Z2.out rfl rfl ?_))
    intro w4 l4 k4 s4
    have L4 := Lib.hid l4
    have B4 := Lib.hid (k4.below (fun k hk => by omega) B2.out B2.out.size)
    clear l4 k4 s4
    go_wp2
    refine ret_ct 2 3 rfl rfl rfl L4.out rfl ⟨none, 0, 0, ?_, ?_, B4.out⟩
    · rw [GG.out.1, GG.out.2]
    · rw [GG.out.1]; exact OwnF.nil _ _
  · obtain ⟨z0, z1⟩ := inB_yes.1 hq
    clear hq
    obtain ⟨sz, hsz⟩ : ∃ sz : Nat, L.size = sz := ⟨L.size.toNat, by omega⟩
    rw [hsz] at c4 z0 z1 sb0 sb1 ⊢
    have n0 : 17 ≤ sz := by omega
    have n1 : sz ≤ 116 := by omega
    have HSZ := Lib.hid hsz
    have RD := Lib.hid (A2.out.reads.take sz)
    have HLL : Hid ((L.load.take sz).length = sz) := Lib.hid (by rw [List.length_take, OK.out.l]; omega)
    have RC := Lib.hid (rdC_of OK.out.l sz hsz n0 n1)
    clear hsz
    have TR := Lib.hid (rdcat_any w2.heap.size b 5 sz (L.load.take sz) HLL.out n0 n1 w2 RD.out (Nat.le_refl _))
    have COK := Lib.hid (rdC_ok RD.out (by rw [HLL.out]; exact n0))
    rw [RC.out] at TR COK
    go_wp2_with fail
    refine TR.out.mono ?_
    rintro e w3 ⟨A, c', rfl, ow, b3⟩
    clear TR
    obtain ⟨c, hc⟩ : ∃ c, unCt L = c := ⟨_, rfl⟩
    rw [hc] at ow COK ⊢
    have HC := Lib.hid hc
    have OW := Lib.hid ow
    have A3 := Lib.hid (A2.out.below b3)
    have Z3 := Lib.hid (Z2.out.below b3)
    have B3 := Lib.hid (bstep B2.out b3)
    have hA3 : ∀ a, A = some a → w2.heap.size ≤ a.block := fun a ha => (ow.lt a ha).1
    have hr2 : r < w2.heap.size := Z2.out.lt
    clear hc ow b3 A2 Z2 B2 RD
    go_wp2_with (with_reducible refine alloc_ct rfl rfl ?_)
    intro w4 l4 b4 s4
    obtain ⟨g, hg⟩ : ∃ g, g = w3.heap.size := ⟨_, rfl⟩
    rw [← hg] at l4 ⊢
    have hrg : r < g := by rw [hg]; exact Z3.out.lt
    have hbg : b < g := by omega
    have G4 := Lib.hid l4
    have A4 := Lib.hid (A3.out.below b4)
    have Z4 := Lib.hid (Z3.out.below b4)
    have OW4 := Lib.hid (OW.out.below b4)
    have B4 := Lib.hid (bstep B3.out b4)
    have hA4 : ∀ a, A = some a → a.block < g := fun a ha => by have := (OW.out.lt a ha).2; omega
    have hgw : g < w4.heap.size := l4.lt
    clear hg l4 b4 s4 A3 Z3 B3 OW
    go_wp2_with (with_reducible refine store_ct rfl _ _ rfl g Ct.zero c none A 0 ((sz - 17) / 7) 0 c' G4.out rfl rfl ?_)
    intro w5 l5 k5 s5
    have G5 := Lib.hid l5
    have A5 := Lib.hid (A4.out.keep k5 (by omega))
    have Z5 := Lib.hid (Z4.out.keep k5 (by omega))
    have B5 := Lib.hid (k5.below (fun k hk => by omega) B4.out B4.out.size)
    have OW5 := Lib.hid (OW4.out.same (fun a ha => k5.block _ (OW4.out.lt a ha).2 (by have := hA4 a ha; omega)))
    clear l5 k5 s5 A4 Z4 B4 OW4 G4
    go_upto_region 4 with fail
    refine wp_region_held_drew (S := fun w' => CtAt w' g c A ((sz - 17) / 7) c' ∧ LfAt w' b L) (by kernel_rfl) ⟨G5.out, A5.out⟩ (fun HS => ?_)
    refine takeY (i := 0) (d := 15) (v := .agg (ctv c A ((sz - 17) / 7) c').toArray) rfl rfl (by kernel_rfl) (by kernel_rfl) (by kernel_rfl) (fun _ _ _ h => h) (by rfl) (fun w' hSw => exec_load_ct rfl hSw.1 rfl) HS ?_
    simp only [Act.put, List.setIfInBounds_toArray, List.set_cons_zero, List.set_cons_succ]
    refine takeY (i := 2) (d := 17) (v := .agg (lv L).toArray) rfl rfl (by kernel_rfl) (by kernel_rfl) (by kernel_rfl) (fun _ _ _ h => h) (by rfl) (fun w' hSw => exec_load_lf rfl hSw.2 rfl) HS ?_
    simp only [Act.put, List.setIfInBounds_toArray, List.set_cons_zero, List.set_cons_succ]
    refine wpAnyH_ready (rs := [1]) (by kernel_rfl) (by simp) ?_
    refine AllReadyH.cons rfl (fun K hK => ?_) AllReadyH.nil
    go_simp
    have OWD := Lib.hid OW5.out.drew
    refine Calls.mono (put_cat c COK.out w5.heap.size A ((sz - 17) / 7) c' w5.drew OWD.out.2.1 (by unfold maxLen; omega) OWD.out.reads (Nat.le_refl _)) ?_
    rintro e w6 ⟨rfl, b6⟩
    have G6 := Lib.hid (HS.1.below b6)
    have A6 := Lib.hid (HS.2.below b6)
    have Z6 := Lib.hid (Z5.out.below (bstep ((Below.refl _ _).drew) b6))
    have OW6 := Lib.hid (OWD.out.below b6)
    have B6 := Lib.hid (bstep B5.out (bstep ((Below.refl _ _).drew) b6))
    clear b6 OWD OW5 G5 A5 Z5 B5
    refine hK.out _ _ ⟨G6.out, A6.out⟩ (fun HS2 => ?_)
    clear hK
    try simp only [Act.put, List.setIfInBounds_toArray, List.set_cons_zero, List.set_cons_succ]
    refine takeY (i := 3) (d := 18) (v := .bool (!decide (c.putL = L))) rfl rfl (by kernel_rfl) (by kernel_rfl) (by kernel_rfl) (fun _ _ _ h => h) (by rfl) (fun w' hSw => exec_neq_lf rfl (Ct.putL_ok c) OK.out rfl rfl) HS2 ?_
    simp only [Act.put, List.setIfInBounds_toArray, List.set_cons_zero, List.set_cons_succ]
    refine wpAnyH_done (by kernel_rfl) ?_ _
    by_cases hp : c.putL = L
    · have d0 : decide (c.putL = L) = true := decide_eq_true hp
      have GG : Hid (gotC L = c ∧ gotK L = true) := Lib.hid (by
        rw [← HC.out]; refine gotC_yes (by rw [HSZ.out]; omega) ?_; rw [HC.out]; exact hp)
      rw [d0]
      clear hp d0 HS HS2
      go_wp2_with (first | (with_reducible refine load_ct rfl _ rfl g c A _ c' G6.out rfl ?_) | (with_reducible refine store_ct rfl _ _ rfl r Ct.zero c none A 0 ((sz - 17) / 7) 0 c' Z6.out rfl rfl ?_))
      intro w7 l7 k7 s7
      have L7 := Lib.hid l7
      have B7 := Lib.hid (k7.below (fun k hk => by omega) B6.out B6.out.size)
      have OW7 := Lib.hid ((OW6.out.same (fun a ha => k7.block _ (OW6.out.lt a ha).2 (by have := hA3 a ha; omega))).weak (base' := w.heap.size) (fun a ha => by have := hA3 a ha; omega))
      clear l7 k7 s7
      go_wp2
      refine ret_ct 2 3 rfl rfl rfl L7.out rfl ⟨A, (sz - 17) / 7, c', ?_, ?_, B7.out⟩
      · rw [GG.out.1, GG.out.2]
      · rw [GG.out.1]; exact OW7.out
    · have d0 : decide (c.putL = L) = false := decide_eq_false hp
      have GG : Hid (gotC L = Ct.zero ∧ gotK L = false) := Lib.hid (gotC_not OK.out (by rw [HC.out]; exact hp))
      rw [d0]
      clear hp d0 HS HS2
      go_wp2_with (first | (with_reducible refine build_ct0 rfl rfl ?_) | (with_reducible refine store_ct rfl _ _ rfl r Ct.zero Ct.zero none none 0 0 0 0 Z6.out rfl rfl ?_))
      intro w7 l7 k7 s7
      have L7 := Lib.hid l7
      have B7 := Lib.hid (k7.below (fun k hk => by omega) B6.out B6.out.size)
      clear l7 k7 s7
      go_wp2
      refine ret_ct 2 3 rfl rfl rfl L7.out rfl ⟨none, 0, 0, ?_, ?_, B7.out⟩
      · rw [GG.out.1, GG.out.2]
      · rw [GG.out.1]; exact OwnF.nil _ _
end Go.Proofs.Ytilmicekpclmbaa
namespace Go.Proofs.Ytilmicekpclmbaa
set_option linter.unusedVariables false
set_option linter.unusedSimpArgs false
set_option maxRecDepth 100000
open Go.RowKit

/-- The catalog that slot i has. -/
noncomputable def slC (s : Dk) (i : Int) : Ct := if ldB s i then gotC (ldL s i) else Ct.zero
noncomputable def slK (s : Dk) (i : Int) : Bool := ldB s i && gotK (ldL s i)
def SlotE (s : Dk) (i : Int) (w : World) (e : Ending) (w' : World) : Prop :=
  ∃ A n k, e = .returned (.tuple #[.agg (ctv (slC s i) A n k).toArray, .bool (slK s i)]) ∧ OwnF w' w.heap.size A n k (slC s i).files ∧ Below w.heap.size w w'
set_option maxHeartbeats 4000000 in
theorem rslot_any (F b s) (i : Int) (w : World) (h : DiskAt w F b s) (h0 : -9223372036854775808 ≤ i) (h1 : i ≤ 9223372036854775807) (hw : s.wt.length ≤ 1000000) :
    Calls Try.prog 33 #[.pointer (some ⟨b, 0, none⟩), .int .i64 i] w (SlotE s i w) := by
  have H := Lib.hid h
  have OK := Lib.hid h.ok
  clear h
  go_enter Try.func33, Try.ntmps33
  go_wp2_with (with_reducible refine alloc_ct rfl rfl ?_)
  intro w1 l1 b1 s1
  obtain ⟨r, hr⟩ : ∃ r, r = w.heap.size := ⟨_, rfl⟩
  rw [← hr] at l1 ⊢
  have L1 := Lib.hid l1; have B1 := Lib.hid b1
  have RL := Lib.hid (rleaf_any F b s i w1 (H.out.stay (fun q hq => b1.block q (H.out.lt q hq))) h0 h1 hw)
  have hrw : w.heap.size ≤ r := by omega
  clear hr b1 s1 l1
  go_wp2_with fail
  refine RL.out.mono ?_
  rintro e w2 ⟨rfl, b2⟩
  have L2 := Lib.hid (L1.out.below b2)
  have B2 := Lib.hid (bstep B1.out b2)
  have LO := Lib.hid (ldL_ok OK.out i)
  clear RL L1 B1 b2
  go_wp2_with (with_reducible refine alloc_leaf rfl rfl ?_)
  intro w3 l3 b3 s3
  obtain ⟨q, hq⟩ : ∃ q, q = w2.heap.size := ⟨_, rfl⟩
  rw [← hq] at l3 ⊢
  have Q3 := Lib.hid l3
  have hrq : r < q := by rw [hq]; exact L2.out.lt
  have L3 := Lib.hid (L2.out.below b3)
  have B3 := Lib.hid (bstep B2.out b3)
  clear hq b3 s3 l3 L2 B2
  go_wp2_with (with_reducible refine store_leaf rfl _ _ rfl q Lf.zero (ldL s i) Q3.out LO.out rfl rfl ?_)
  intro w4 l4 k4 s4
  have Q4 := Lib.hid l4
  have L4 : Hid (CtAt w4 r Ct.zero none 0 0) := Lib.hid (Arr.same L3.out (k4.block r L3.out.lt (fun e => by have e : r = q := e; omega)))
  have B4 := Lib.hid (k4.below (fun k hk => by have hk : k = q := hk; omega) B3.out B3.out.size)
  clear l4 k4 s4 Q3 L3 B3
  cases hb : ldB s i
  · have E1 : Hid (slC s i = Ct.zero ∧ slK s i = false) := Lib.hid (by unfold slC slK; rw [hb]; exact ⟨rfl, rfl⟩)
    clear hb
    go_wp2_with (first | (with_reducible refine build_ct0 rfl rfl ?_) | (with_reducible refine store_ct rfl _ _ rfl r Ct.zero Ct.zero none none 0 0 0 0 L4.out rfl rfl ?_))
    intro w5 l5 k5 s5
    have B5 : Hid (Below w.heap.size w w5) := Lib.hid (k5.below (fun k hk => by have hk : k = r := hk; omega) B4.out B4.out.size)
    have L5 := Lib.hid l5
    clear l5 k5 s5
    go_wp2
    refine ret_ct 4 5 rfl rfl rfl L5.out rfl ⟨none, 0, 0, ?_, ?_, B5.out⟩
    · rw [E1.out.1, E1.out.2]
    · rw [E1.out.1]; exact OwnF.nil _ _
  · have E1 : Hid (slC s i = gotC (ldL s i) ∧ slK s i = gotK (ldL s i)) := Lib.hid (by unfold slC slK; rw [hb]; exact ⟨rfl, rfl⟩)
    have GC := Lib.hid (getc_any (ldL s i) LO.out w4)
    clear hb
    go_wp2_with (with_reducible refine load_leaf rfl _ rfl q (ldL s i) Q4.out rfl ?_)
    refine GC.out.mono ?_
    rintro e w5 ⟨A, n, k, rfl, ow, b5⟩
    have L5 := Lib.hid (L4.out.below b5)
    have B5 := Lib.hid (bstep B4.out b5)
    have OW : Hid (OwnF w5 w4.heap.size A n k (gotC (ldL s i)).files) := Lib.hid ow
    clear GC ow b5
    go_wp2_with (with_reducible refine store_ct rfl _ _ rfl r Ct.zero (gotC (ldL s i)) none A 0 n 0 k L5.out rfl rfl ?_)
    intro w6 l6 k6 s6
    have B6 : Hid (Below w.heap.size w w6) := Lib.hid (k6.below (fun k hk => by have hk : k = r := hk; omega) B5.out B5.out.size)
    have L6 := Lib.hid l6
    have O6 : Hid (OwnF w6 w.heap.size A n k (gotC (ldL s i)).files) := Lib.hid ((OW.out.keep k6 (fun a ha e => by have e : a.block = r := e; have := (OW.out.lt a ha).1; have := L4.out.lt; omega)).weak (fun a ha => by have := (OW.out.lt a ha).1; have := B4.out.size; omega))
    clear l6 k6 s6 OW
    go_wp2
    refine ret_ct 4 5 rfl rfl rfl L6.out rfl ⟨A, n, k, ?_, ?_, B6.out⟩
    · rw [E1.out.1, E1.out.2]
    · rw [E1.out.1]; exact O6.out
end Go.Proofs.Ytilmicekpclmbaa
namespace Go.Proofs.Ytilmicekpclmbaa
set_option linter.unusedVariables false
set_option linter.unusedSimpArgs false
set_option maxRecDepth 100000
open Go.RowKit

theorem StLay.catR {w : World} {F : Nat → Prop} {b : Nat} {s : St} {Fd : Nat → Prop} {d : Nat} {A : Option Addr} {n c : Nat} {G : Option Addr} {k : Nat} (h : StLay w F b s Fd d A n c G k) : w.rangeAt b 1 (ctv s.cat A n c) := fun j v hv => by
  rw [h.st.cell]
  have hj : j < 9 := by
    rcases Nat.lt_or_ge j 9 with e | e
    · exact e
    · rw [List.getElem?_eq_none (by simpa [ctv] using e)] at hv; cases hv
  rw [Nat.add_comm]
  unfold stv
  show (ctv s.cat A n c ++ [Value.int .i64 s.slot, Value.int .i64 s.begun, Value.slice G s.free.length k])[j]? = _
  rw [List.getElem?_append_left (by simpa [ctv] using hj)]
  exact hv
theorem load_cat {ops : Array Oper} {rs : List Oper} {o : Oper} {a : Act} {w : World} {Q : Exit → Act → World → Prop} (hgd : o.guard = none) (x : Operand) (ho : o.op = .load 37 x) {F : Nat → Prop} {b : Nat} {s : St} {Fd : Nat → Prop} {d : Nat} {A : Option Addr} {n c : Nat} {G : Option Addr} {k : Nat} (hL : StLay w F b s Fd d A n c G k) (hx : a.eval x = .pointer (some ⟨b, 1, none⟩))
    (h : wpList Try.prog ops Q rs (a.put o.dst (.agg (ctv s.cat A n c).toArray)) w) : wpList Try.prog ops Q (o :: rs) a w :=
  wpList_load_mid hgd _ x ho b 1 hx (ctv s.cat A n c) _ hL.catR Try.underlying37 rfl Try.size_ct h
set_option maxHeartbeats 4000000 in
theorem catalog_any (F b s) (w : World) (h : StAt w F b s) (hm : s.cat.files.length ≤ 1000) :
    Calls Try.prog 12 #[.pointer (some ⟨b, 0, none⟩)] w fun e w' => ∃ A n k, e = .returned (.agg (ctv s.cat A n k).toArray) ∧ OwnF w' w.heap.size A n k s.cat.files ∧ Below w.heap.size w w' := by
  obtain ⟨Fd, d, A, n, c, G, k, hl⟩ := h
  have HL := Lib.hid hl
  have hn : n ≤ 1000 := by have := hl.fl.2.1; omega
  clear hl
  go_enter Try.func12, Try.ntmps12
  go_wp2_with (with_reducible refine alloc_ct rfl rfl ?_)
  intro w1 l1 b1 s1
  obtain ⟨r, hr⟩ : ∃ r, r = w.heap.size := ⟨_, rfl⟩
  rw [← hr] at l1 ⊢
  have R1 := Lib.hid l1; have B1 := Lib.hid b1
  have S1 := Lib.hid (HL.out.below b1)
  have hrw : w.heap.size ≤ r := by omega
  clear hr b1 s1 l1
  go_wp2_with (first | (with_reducible refine load_cat rfl _ rfl S1.out rfl ?_) | (with_reducible refine alloc_ct rfl rfl ?_))
  intro w2 l2 b2 s2
  obtain ⟨q, hq⟩ : ∃ q, q = w1.heap.size := ⟨_, rfl⟩
  rw [← hq] at l2 ⊢
  have Q2 := Lib.hid l2
  have hrq : r < q := by rw [hq]; exact R1.out.lt
  have S2 := Lib.hid (S1.out.below b2)
  have R2 : Hid (CtAt w2 r Ct.zero none 0 0) := Lib.hid (R1.out.below b2)
  have B2 := Lib.hid (bstep B1.out b2)
  clear hq b2 s2 l2 R1 S1 B1
  go_wp2_with (with_reducible refine store_ct rfl _ _ rfl q Ct.zero s.cat none A 0 n 0 c Q2.out rfl rfl ?_)
  intro w3 l3 k3 s3
  have Q3 : Hid (CtAt w3 q s.cat A n c) := Lib.hid l3
  have B3 := Lib.hid (k3.below (fun j hj => by have hj : j = q := hj; omega) B2.out B2.out.size)
  have S3 : Hid (StLay w3 F b s Fd d A n c G k) := Lib.hid (HL.out.below B3.out)
  have R3 : Hid (CtAt w3 r Ct.zero none 0 0) := Lib.hid (Arr.same R2.out (k3.block r R2.out.lt (fun e => by have e : r = q := e; omega)))
  have CL := Lib.hid (cloneF_any s.cat.files w3.heap.size A n c w3 S3.out.fl.2.1 hn S3.out.fl.reads (Nat.le_refl _))
  have c8 : w3.cell? ⟨q, 8, none⟩ = some (.slice A n c) := Arr.cell Q3.out 8
  clear l3 k3 s3 Q2 S2 R2 B2
  go_wp2_with fail
  refine CL.out.mono ?_
  rintro e w4 ⟨A', c', rfl, ow, b4⟩
  have Q4 : Hid (CtAt w4 q s.cat A n c) := Lib.hid (Q3.out.below b4)
  have R4 : Hid (CtAt w4 r Ct.zero none 0 0) := Lib.hid (R3.out.below b4)
  have B4 := Lib.hid (bstep B3.out b4)
  have OW := Lib.hid ow
  have Q5 : Hid (CtAt (w4.setCell ⟨q, 8, none⟩ (.slice A' n c')) q s.cat A' n c') := Lib.hid Q4.out.files
  have hqr : q ≠ r := by omega
  have R5 : Hid (CtAt (w4.setCell ⟨q, 8, none⟩ (.slice A' n c')) r Ct.zero none 0 0) := Lib.hid (Arr.far R4.out (fun e => by omega) _)
  have B5 : Hid (Below w.heap.size w (w4.setCell ⟨q, 8, none⟩ (.slice A' n c'))) := Lib.hid ((Keep.cellF (F := (· = q)) (a := ⟨q, 8, none⟩) (Keep.refl _ w4) rfl _).below (fun j hj => by have hj : j = q := hj; omega) B4.out B4.out.size)
  have c8 : w4.cell? ⟨q, 8, none⟩ = some (.slice A n c) := Arr.cell Q4.out 8
  have z8 : w4.frozen? ⟨q, 8, none⟩ = false := Arr.frozen Q4.out 8
  have LTQ := Lib.hid Q3.out.lt
  have OW5 : Hid (OwnF (w4.setCell ⟨q, 8, none⟩ (.slice A' n c')) w.heap.size A' n c' s.cat.files) := Lib.hid ((OW.out.other (fun a ha => by have := (OW.out.lt a ha).1; have := LTQ.out; omega) _).weak (fun a ha => by have := (OW.out.lt a ha).1; have := B3.out.size; omega))
  clear ow b4 CL
  go_wp2_with (first | (with_reducible refine load_ct rfl _ rfl q s.cat A' n c' Q5.out rfl ?_) | (with_reducible refine store_ct rfl _ _ rfl r Ct.zero s.cat none A' 0 n 0 c' R5.out rfl rfl ?_))
  intro w6 l6 k6 s6
  have B6 : Hid (Below w.heap.size w w6) := Lib.hid (k6.below (fun j hj => by have hj : j = r := hj; omega) B5.out B5.out.size)
  have O6 : Hid (OwnF w6 w.heap.size A' n c' s.cat.files) := Lib.hid (OW5.out.keep k6 (fun a ha e => by have e : a.block = r := e; have := (OW.out.lt a ha).1; have := LTQ.out; omega))
  have L6 : Hid (CtAt w6 r s.cat A' n c') := Lib.hid l6
  clear l6 k6 s6
  go_wp2
  exact ret_ct1 2 rfl rfl L6.out rfl ⟨A', n, c', rfl, O6.out, B6.out⟩
end Go.Proofs.Ytilmicekpclmbaa
