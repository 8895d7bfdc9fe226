/-
  Rows of structs of the call's own: empty ones, many elements more; a slice against nil.
  The program's disk: Twin; slices.Clone at its types.
  slices.Backward over the writes that wait: its contract for every loop body.
-/
import Derived.Test.YtilmicekpclmbaaZd
import Derived.Deep.MidRow
import Derived.Test.YtilmicekpclmbaaZi
import Derived.RangeFuncNested
import Derived.RangeFuncBound
import Derived.RangeFuncCalls
import Derived.RangeFuncLeaves
import Derived.Shelf.Abstract
import Derived.Shelf.RegionOpen
import Derived.WalkKit
import Derived.OwnWalkIn
import Derived.TacticsInMore
import Derived.LoopNIn
import Derived.LoopIn
namespace Go.Proofs.Ytilmicekpclmbaa
set_option linter.unusedVariables false
set_option linter.unusedSimpArgs false
open Go.RowKit

/-- Many elements onto an empty list of the call's own. -/
theorem app_rowsN (w : World) {ops : Array Oper} {rs : List Oper} {o : Oper} {a : Act} {Q : Exit → Act → World → Prop} (hgd : o.guard = none)
    (s x : Operand) (t e : TypeId) (ho : o.op = .call { callee := .builtin .append, args := #[s, x], argTypes := #[t, t] }) (hu : Try.prog.underlying t = some (.slice e))
    (zv : Value) (z nb : Nat) (hinf : (Try.prog.info? e).map (fun i => (i.zero, i.size, i.bytes)) = some (some zv, z, nb)) (hzc : zv.cells.size = z) (hz : 0 < z) (hnb : nb ≤ 10000)
    (base : Nat) (g c k : Nat) (ys : List Value) (hs : a.eval s = .slice (some ⟨g, 0, none⟩) k c) (hown : RowN w base e z (some ⟨g, 0, none⟩) k c ys)
    (ad : Addr) (m c' : Nat) (xs : List Value) (hm : xs.length = m * z) (hx : a.eval x = .slice (some ad) m c') (hsrc : ∀ (j : Nat) (u : Value), xs[j]? = some u → w.cell? (ad.add j) = some u) (h1 : ∀ u, u ∈ xs → u.oneCell' = true) (hl : k + m ≤ 1000000000) (hbase : base ≤ w.heap.size)
    (h : ∀ g' c'' w', RowN w' base e z (some ⟨g', 0, none⟩) (k + m) c'' (ys ++ xs) → w.grownBy w' (some g) → wpList Try.prog ops Q rs (a.put o.dst (.slice (some ⟨g', 0, none⟩) (k + m) c'')) w') :
    wpList Try.prog ops Q (o :: rs) a w := by
  obtain ⟨i0, hi, hz0, hz1, hz2⟩ := info_parts hinf
  rcases Nat.eq_zero_or_pos m with h0 | h0
  · subst h0
    rw [Nat.zero_mul] at hm
    obtain rfl : xs = [] := List.eq_nil_of_length_eq_zero hm
    refine wpList_append_fits_any w hgd s x t ho base e i0 z hu hi hz1 g k c ys hs hown (some ad) 0 c' [] hx (by simp) (fun e => (by cases e)) (fun _ _ j u hu => by simp at hu) (fun u hu => by simp at hu) (by have := hown.cap; omega) ?_
    intro w' k1 k2
    exact h g c w' k1 k2
  · refine wpList_append_own w hgd s x t ho base e i0 zv z nb hu hi hz0 hz1 hz2 hzc hz _ k ys hs hown ad m c' xs hx hm hsrc h1 (by unfold maxLen; omega) ?_ hbase ?_
    · have := Nat.mul_le_mul hl hnb
      omega
    · intro v' w' k1 k2 k3
      obtain ⟨g', cap', hv, _, _⟩ := k1.form (by omega)
      subst hv
      exact h g' cap' w' k1 k2
theorem RowN.empty (w : World) (e : TypeId) (z base : Nat) (hb : base ≤ w.heap.size) : RowN (w.alloc (.cells #[] e)) base e z (some ⟨w.heap.size, 0, none⟩) 0 0 [] :=
  RowN.mk (cur := #[]) hb (heap_alloc_new w _) (Nat.le_refl _) (Nat.zero_le _) (by simp) (by simp)
theorem RowN.src {w : World} {base : Nat} {e : TypeId} {z n c g : Nat} {xs : List Value} (h : RowN w base e z (some ⟨g, 0, none⟩) n c xs) (j : Nat) (u : Value) (hu : xs[j]? = some u) : w.cell? ((⟨g, 0, none⟩ : Addr).add j) = some u := by
  rcases h.parts with ⟨e1, _⟩ | ⟨g', cur, e1, hb, h1, h2, h3, h4, h5⟩
  · cases e1
  · injection e1 with e1
    injection e1 with e1
    subst e1
    have hj : j < xs.length := by
      rcases Nat.lt_or_ge j xs.length with e | e
      · exact e
      · rw [List.getElem?_eq_none e] at hu; cases hu
    rw [Addr.add_mid, Nat.zero_add, cell_of_row w g j cur _ (0, 0) h1]
    rw [← h5, List.getElem?_take] at hu
    split at hu
    · simpa using hu
    · cases hu
theorem RowN.len {w : World} {base : Nat} {e : TypeId} {z : Nat} {A : Option Addr} {n c : Nat} {xs : List Value} (h : RowN w base e z A n c xs) : xs.length = n * z := h.1

theorem equal_in (d : Nat) (t e : TypeId) (a : Option Addr) (l c : Nat) (h : Try.prog.underlying t = some (.slice e)) (w : World) : (Op.equalIn (d + 1) t (.slice a l c) (.slice none 0 0)).run Try.prog w = .ok a.isNone w := by cases a <;> simp [Op.equalIn, run_underlying h]
theorem eql_nil (t e : TypeId) (a : Option Addr) (l c : Nat) (h : Try.prog.underlying t = some (.slice e)) (w : World) : (binOp .eql t (.slice a l c) (.slice none 0 0)).run Try.prog w = .ok (.bool a.isNone) w := by
  simp only [binOp]
  simp [Op.equal, Op.maxDepth, equal_in 9999 t e a l c h]
end Go.Proofs.Ytilmicekpclmbaa
namespace Go.Proofs.Ytilmicekpclmbaa
set_option linter.unusedVariables false
set_option linter.unusedSimpArgs false
open Go.RowKit

theorem bl_one {s : Dk} (u : Value) (h : u ∈ (bl s).flatten) : u.oneCell' = true := by
  obtain ⟨l, hl, hu⟩ := List.mem_flatten.1 h
  unfold bl at hl
  obtain ⟨i, hi, rfl⟩ := List.mem_iff_getElem.1 hl
  rw [List.getElem_zipWith] at hu
  rcases List.mem_append.1 hu with hu | hu
  · exact vals_one _ u hu
  · rw [List.mem_singleton] at hu; subst hu; rfl
theorem wl_one (l : List (Nat × List Int)) (u : Value) (h : u ∈ (wl l).flatten) : u.oneCell' = true := by
  obtain ⟨x, hx, hu⟩ := List.mem_flatten.1 h
  unfold wl at hx
  rw [List.mem_map] at hx
  obtain ⟨p, _, rfl⟩ := hx
  exact wrow_one p u hu
theorem clone_bytes (B : Nat) (a : Addr) (c : Nat) (xs : List Int) (w : World) (hr : RdB w B (some a) xs) (hB : B ≤ w.heap.size) (hl : xs.length = 128) :
    Calls Try.prog 39 #[.slice (some a) 128 c] w fun e w' => ∃ g' c', e = .returned (.slice (some ⟨g', 0, none⟩) 128 c') ∧ Own w' w.heap.size g' c' xs ∧ Below w.heap.size w w' := by
  have HR := Lib.hid hr; have HL := Lib.hid hl
  have en := eql_nil 30 5 (some a) 128 c Try.underlying30
  clear hr hl
  go_enter Try.func39, Try.ntmps39
  go_wp2_with (at_builtin; go_loud (refine app_rd _ rfl _ _ rfl w.heap.size w.heap.size 0 0 [] rfl rfl (Own.empty w _ (Nat.le_refl _)) B (some a) 128 c xs HL.out rfl (HR.out.below ((Below.alloc (Below.refl _ w) (Nat.le_refl _) _).mono hB)) (fun e => (by cases e)) (by omega) (by simp) ?_))
  intro g' c'' w' r1 r2
  have R1 := Lib.hid r1
  have B1 : Hid (Below w.heap.size w w') := Lib.hid (Below.grown (Below.alloc (Below.refl _ w) (Nat.le_refl _) (.cells #[] 5)) r2 (by simp) (fun k hk => by injection hk with hk; omega))
  clear r1 r2
  go_wp2
  go_ret
  exact ⟨g', c'', rfl, R1.out, B1.out⟩

end Go.Proofs.Ytilmicekpclmbaa
namespace Go.Proofs.Ytilmicekpclmbaa
set_option linter.unusedVariables false
set_option linter.unusedSimpArgs false
open Go.RowKit Go.Shelf
attribute [local go_sem] Oper.semAt_some

/-- A write with its place. -/
def Wt : Type := Nat × { p : Nat × List Int // IsBlk p.2 }
def wtEncs (x : Wt) : Array Value := #[.int .i64 (x.1 : Int), .agg (wrow x.2.1).toArray]
theorem blk_getD (l : List (Nat × List Int)) (h : ∀ p, p ∈ l → IsBlk p.2) (j : Nat) : IsBlk (l.getD j (0, fillB 0)).2 := by
  rw [List.getD_eq_getElem?_getD]
  rcases Nat.lt_or_ge j l.length with e | e
  · rw [List.getElem?_eq_getElem e]; exact h _ (List.getElem_mem _)
  · rw [List.getElem?_eq_none e]; exact IsBlk.fill ⟨by decide, by decide⟩
def wtEl (l : List (Nat × List Int)) (h : ∀ p, p ∈ l → IsBlk p.2) (j : Nat) : Wt := (j, ⟨l.getD j (0, fillB 0), blk_getD l h j⟩)
/-- What has come when j rounds are over: the last first. -/
def wtCome (l : List (Nat × List Int)) (h : ∀ p, p ∈ l → IsBlk p.2) (j : Nat) : List Wt := (List.range j).map (fun t => wtEl l h (l.length - 1 - t))
theorem wtCome_succ (l : List (Nat × List Int)) (h : ∀ p, p ∈ l → IsBlk p.2) (j : Nat) : wtCome l h (j + 1) = wtCome l h j ++ [wtEl l h (l.length - 1 - j)] := by simp [wtCome, List.range_succ]
theorem wtCome_length (l : List (Nat × List Int)) (h : ∀ p, p ∈ l → IsBlk p.2) (j : Nat) : (wtCome l h j).length = j := by simp [wtCome]
/-- A load of a whole write, by its own name. -/
def loadWr (p : Value) : Sem Value := Instr.loadAt 117 p
theorem loadWr_eq (p : Value) : Instr.loadAt 117 p = loadWr p := rfl
attribute [local go_sem ↓] loadWr_eq
theorem load_wr (w : World) (b o : Nat) (p : Nat × List Int) (h : IsBlk p.2) (hr : w.rangeAt b o (wrow p)) : (loadWr (.pointer (some ⟨b, o, none⟩))).run Try.prog w = .ok (.agg (wrow p).toArray) w :=
  run_loadAt_mid (P := Try.prog) w b o 117 (wrow p) _ hr Try.underlying117 rfl (by rw [wrow_len p h]; exact Try.size_write)

set_option maxRecDepth 100000 in
set_option maxHeartbeats 2000000 in
theorem back1_in (F : Fence) (n : Nat) (h39 : F.fn 80) (hro : F.round = none) (hn : 1 ≤ n) (l Bs n₀ c : Nat) (A : Option Addr) (wt : List (Nat × List Int)) (hB : ∀ p, p ∈ wt → IsBlk p.2) (hq : wt.length ≤ 1000000) (hBs : Bs < n₀) (hA : ∀ a, A = some a → a.block < n₀) (J Jx : List Wt → World → Prop)
    (hY : ∀ pre x W, J pre W → pre.length < wt.length → YieldAt F (n - 1) Try.prog l (wtEncs x) W fun e W' =>
      (e = .returned (.bool true) ∧ J (pre ++ [x]) W' ∧ Below n₀ W W') ∨ (e = .returned (.bool false) ∧ Jx (pre ++ [x]) W'))
    (W : World) (hcb : W.cell? ⟨Bs, 0, none⟩ = some (.slice A wt.length c)) (hrow : RowN W 0 117 129 A wt.length c (wl wt).flatten) (h0 : J [] W) :
    CallsIn F n Try.prog 80 #[.func (.yield l) #[] #[], .pointer (some ⟨Bs, 0, none⟩)] W fun e W' => (∃ v, e = .returned v) ∧
      ((∃ ys, ys = wtCome wt hB wt.length ∧ J ys W') ∨ (∃ pre, (∃ k, k ≤ wt.length ∧ pre = wtCome wt hB k) ∧ Jx pre W')) := by
  refine callsIn_of_wp Try.func80 rfl h39 ?_ hro
  simp only [Try.ntmps80, List.size_toArray, List.length_cons, List.length_nil, Nat.reduceAdd, Nat.reduceSub, Array.replicate_succ, Array.replicate_zero, List.push_toArray, List.append_toArray, List.nil_append, List.cons_append]
  have HR := Lib.hid hrow; have H0 := Lib.hid h0; have HY := Lib.hid hY; have HA := Lib.hid hA
  clear hrow h0 hY hA
  obtain ⟨q, hq'⟩ : ∃ q, wt.length = q := ⟨_, rfl⟩
  have HQ := Lib.hid hq'
  rw [hq'] at hq hcb ⊢
  clear hq'
  have e0 : IntKind.i64.wrap ((q : Int) - 1) = (q : Int) - 1 := by rw [IntKind.wrap_i64]; omega
  gi_wp2
  gi_loopw [3] (fun i wr => ∃ j : Nat, j ≤ q ∧ i = .int .i64 ((q : Int) - 1 - (j : Int)) ∧ J (wtCome wt hB j) wr ∧ Below n₀ W wr)
    (fun i _ => (intOf i + 1).toNat)
  case atStart => exact ⟨0, Nat.zero_le _, by simp, H0.out, Below.refl _ _⟩
  case round =>
    obtain ⟨j, hj, rfl, hJs, hnx⟩ := hrel
    have HJ := Lib.hid hJs; have HN := Lib.hid hnx
    have cb : wr.cell? ⟨Bs, 0, none⟩ = some (.slice A q c) := (hnx.cell (p := ⟨Bs, 0, none⟩) hBs).trans hcb
    clear hJs hnx
    by_cases hlt : j < q
    · obtain ⟨k, hk⟩ : ∃ k : Nat, (q : Int) - 1 - (j : Int) = (k : Int) := ⟨q - 1 - j, by omega⟩
      have HK := Lib.hid hk
      have hkq : k < q := by omega
      rw [hk]
      have k0 : (0 : Int) ≤ (k : Int) := by omega
      have k1 : (k : Int) < (q : Int) := by omega
      have e1 : IntKind.i64.wrap ((k : Int) - 1) = (k : Int) - 1 := by rw [IntKind.wrap_i64]; omega
      have hY := HY.out (wtCome wt hB j) (wtEl wt hB k) wr HJ.out (by rw [wtCome_length, HQ.out]; exact hlt)
      obtain ⟨fn, tmps, assign, body, hy, hR⟩ := hY
      unfold wtEncs wtEl at hy
      dsimp only at hy
      have hrw : RowN wr 0 117 129 A q c (wl wt).flatten := by
        have := HR.out.same (w' := wr) (fun a ha => HN.out.block _ (HA.out a ha))
        rw [HQ.out] at this
        exact this
      obtain ⟨ga, rfl, hat⟩ := hrw.at (by omega)
      clear hat
      have hr := hrw.range (wl_even hB) (by rw [wl_len, HQ.out]) k hkq
      rw [wl_getD _ _ (by rw [HQ.out]; exact hkq)] at hr
      have eg : wt.getD k (0, []) = wt.getD k (0, fillB 0) := by rw [List.getD_eq_getElem?_getD, List.getD_eq_getElem?_getD, List.getElem?_eq_getElem (by rw [HQ.out]; exact hkq)]; rfl
      rw [eg] at hr
      have ld := load_wr wr ga (k * 129) _ (blk_getD wt hB k) hr
      clear hr hrw eg
      have ek : q - 1 - j = k := by omega
      have NX : Hid (wtCome wt hB (j + 1) = wtCome wt hB j ++ [wtEl wt hB k]) := Lib.hid (by rw [wtCome_succ, HQ.out, ek])
      generalize (wrow (wt.getD k (0, fillB 0))).toArray = V at ld hy
      clear ek hk
      gi_wp2
      refine hR.mono ?_
      rintro e W3 (⟨rfl, hJ3, hk3⟩ | ⟨rfl, hJx3⟩)
      · rw [← NX.out] at hJ3
        have HJ3 := Lib.hid hJ3; have HK3 := Lib.hid hk3
        clear hJ3 hk3
        gi_wp2
        go_roundw
        case rel => exact ⟨j + 1, by omega, by have := HK.out; congr 1; omega, HJ3.out, HN.out.trans HK3.out⟩
        case measure => simp [intOf]
      · rw [← NX.out] at hJx3
        gi_wp2
        refine bodyPost_ret (results_none rfl _ _ _) rfl ?_
        exact ⟨⟨_, rfl⟩, .inr ⟨_, ⟨j + 1, by omega, rfl⟩, hJx3⟩⟩
    · obtain rfl : j = q := by omega
      have e2 : (j : Int) - 1 - (j : Int) = -1 := by omega
      rw [e2]
      gi_wp2
      go_end0
      exact ⟨⟨_, rfl⟩, .inl ⟨_, rfl, HJ.out⟩⟩
theorem back_stops (F : Fence) (n : Nat) (h39 : F.fn 80) (hro : F.round = none) (hn : 1 ≤ n) (Bs n₀ c : Nat) (A : Option Addr) (wt : List (Nat × List Int)) (hB : ∀ p, p ∈ wt → IsBlk p.2) (hq : wt.length ≤ 1000000) (hBs : Bs < n₀) (w : World) (hn₀ : n₀ ≤ w.heap.size) (hA : ∀ a, A = some a → a.block < n₀)
    (hc : w.cell? ⟨Bs, 0, none⟩ = some (.slice A wt.length c)) (hrow : RowN w 0 117 129 A wt.length c (wl wt).flatten) :
    SeqStopsK F n Try.prog 80 #[.pointer (some ⟨Bs, 0, none⟩)] wtEncs (Below n₀) (fun ys => ys = wtCome wt hB wt.length) (fun pre => ∃ k, k ≤ wt.length ∧ pre = wtCome wt hB k) wt.length w := fun l J Jx W hW _ _ hY h0 =>
  back1_in F n h39 hro hn l Bs n₀ c A wt hB hq hBs hA J Jx hY W ((hW.cell (p := ⟨Bs, 0, none⟩) (by show Bs < _; omega)).trans hc) (hrow.same (fun a ha => hW.block _ (by have := hA a ha; omega))) h0
theorem back_any (A : Option Addr) (n c : Nat) (w : World) : Calls Try.prog 68 #[.slice A n c] w fun e w' => e = .returned (.func (.func 80) #[] #[.pointer (some ⟨w.heap.size, 0, none⟩)]) ∧ w' = w.alloc (.cells #[.slice A n c] 67) := by
  have hmf : ∀ (fn : Fn) (first cap : Array Value) (w : World), (Instr.makeFunc fn first cap).run Try.prog w = .ok (.func fn first cap) w := fun _ _ _ _ => rfl
  go_enter Try.func68, Try.ntmps68
  go_wp2
  go_ret
  exact ⟨rfl, rfl⟩
/-! ## What waits last -/
theorem lastFor_snoc2 (l : List (Nat × List Int)) (p : Nat × List Int) (i : Nat) : lastFor (l ++ [p]) i = if p.1 = i then some p.2 else lastFor l i := by unfold lastFor; rw [List.foldl_append]; rfl
theorem lastFor_none2 (l : List (Nat × List Int)) (i : Nat) (h : ∀ p, p ∈ l → p.1 ≠ i) : lastFor l i = none := by
  have : ∀ (l : List (Nat × List Int)) (a : Option (List Int)), (∀ p, p ∈ l → p.1 ≠ i) → l.foldl (fun a p => if p.1 = i then some p.2 else a) a = a := fun l => by
    induction l with
    | nil => intro a _; rfl
    | cons p r ih => intro a h; rw [List.foldl_cons, if_neg (h p (by simp)), ih a (fun q hq => h q (by simp [hq]))]
  exact this l none h
theorem lastFor_at2 (l : List (Nat × List Int)) (i k : Nat) (hk : k < l.length) (h1 : (l.getD k (0, fillB 0)).1 = i) (h2 : ∀ j, k < j → j < l.length → (l.getD j (0, fillB 0)).1 ≠ i) : lastFor l i = some (l.getD k (0, fillB 0)).2 := by
  have e : l = l.take k ++ [l.getD k (0, fillB 0)] ++ l.drop (k + 1) := by
    rw [← take_next l k _ hk, List.take_append_drop]
  have hs : ∀ (r : List (Nat × List Int)) (a : Option (List Int)), (∀ p, p ∈ r → p.1 ≠ i) → r.foldl (fun a p => if p.1 = i then some p.2 else a) a = a := fun r => by
    induction r with
    | nil => intro a _; rfl
    | cons p r ih => intro a h; rw [List.foldl_cons, if_neg (h p (by simp)), ih a (fun q hq => h q (by simp [hq]))]
  have h3 : lastFor (l.take k ++ [l.getD k (0, fillB 0)] ++ l.drop (k + 1)) i = lastFor (l.take k ++ [l.getD k (0, fillB 0)]) i := by
    unfold lastFor
    rw [List.foldl_append]
    refine hs _ _ (fun p hp => ?_)
    obtain ⟨j, hj, rfl⟩ := List.mem_iff_getElem.1 hp
    rw [List.length_drop] at hj
    have := h2 (k + 1 + j) (by omega) (by omega)
    rw [List.getD_eq_getElem?_getD, List.getElem?_eq_getElem (by omega)] at this
    rw [List.getElem_drop]
    exact this
  rw [← e] at h3
  rw [h3, lastFor_snoc2, if_pos h1]
end Go.Proofs.Ytilmicekpclmbaa
