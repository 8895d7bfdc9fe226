/-
  The walk of the statement HeapTexts.
-/
import Derived.Test.YtkgjbmlgbfejlaaHr
import Derived.Test.YtkgjbmlgbfejlaaHsQ
import Derived.Lib.MinMax
import Derived.Maps.RangeWalk
import Derived.Maps.OwnOps
import Derived.Maps.Views
import Derived.Maps.OwnSet
import Derived.StringKeys
namespace Go.Proofs.Ytkgjbmlgbfejlaa
set_option linter.unusedVariables false
set_option linter.unusedSimpArgs false
set_option maxRecDepth 100000
open Go.RowKit Go.Maps

theorem Try.slaw : Keyed Try.prog 9 := string_keyed Try.underlying9
theorem Try.zint (w : World) : (zeroValue 3).run Try.prog w = .ok (.int .i64 0) w := by kernel_rfl
/-- How often a text is there. -/
def cntT (C : List ByteArray) (l : List UInt8) : Nat := C.countP fun t => t.data.toList == l
theorem cntT_perm {C C' : List ByteArray} (h : C.Perm C') (l : List UInt8) : cntT C l = cntT C' l := h.countP_eq _
theorem cntT_cons (x : ByteArray) (C : List ByteArray) (l : List UInt8) : cntT (x :: C) l = cntT C l + if x.data.toList = l then 1 else 0 := by
  unfold cntT
  rw [List.countP_cons]
  by_cases h : x.data.toList = l
  · rw [if_pos (by simpa using h), if_pos h]
  · rw [if_neg (by simpa using h), if_neg h]
theorem bytes_inj {s t : ByteArray} (h : s.data.toList = t.data.toList) : s = t := by
  cases s; cases t
  congr 1
  exact Array.ext' h
theorem cntT_pos {C : List ByteArray} {s : ByteArray} (h : 0 < cntT C s.data.toList) : s ∈ C := by
  unfold cntT at h
  obtain ⟨t, ht, e⟩ := List.countP_pos_iff.1 h
  have e : t.data.toList = s.data.toList := by simpa using e
  rw [← bytes_inj e]; exact ht
/-- The map reads as the counts. -/
def MapC (D : DataW Unit) (C : List ByteArray) : Prop := ∀ l : List UInt8, D.atKey (.string l) (.lit (.int .i64 0)) = .lit (.int .i64 (cntT C l : Int))
theorem MapC.perm {D : DataW Unit} {C C' : List ByteArray} (h : MapC D C) (p : C.Perm C') : MapC D C' := fun l => by rw [h l, cntT_perm p]
theorem MapC.push {D : DataW Unit} {C : List ByteArray} {s : ByteArray} (h : MapC D C) (hD : IsMap D) (hs : WideAt.IsKeyLit (.string s.data.toList)) : MapC (D.put (.string s.data.toList) (.lit (.int .i64 ((cntT C s.data.toList : Int) + 1)))) (s :: C) := fun l => by
  rw [cntT_cons]
  by_cases e : s.data.toList = l
  · subst e
    rw [atKey_put_same hD hs, if_pos rfl]
    rfl
  · rw [atKey_put_other (fun q => e (by injection q with q; exact q.symm)), h l, if_neg e]
    rfl
theorem MapC.pop {D : DataW Unit} {C : List ByteArray} {s : ByteArray} (h : MapC D (s :: C)) (hD : IsMap D) (hs : WideAt.IsKeyLit (.string s.data.toList)) : MapC (D.put (.string s.data.toList) (.lit (.int .i64 ((cntT (s :: C) s.data.toList : Int) - 1)))) C := fun l => by
  by_cases e : s.data.toList = l
  · subst e
    rw [atKey_put_same hD hs, cntT_cons, if_pos rfl]
    congr 2
    omega
  · rw [atKey_put_other (fun q => e (by injection q with q; exact q.symm)), h l, cntT_cons, if_neg e]
    rfl
theorem lit_inj {a b : Int} (h : (DataW.lit (.int .i64 a) : DataW Unit) = .lit (.int .i64 b)) : a = b := by injection h with h; injection h
theorem cnt_le (C : List ByteArray) (l : List UInt8) : cntT C l ≤ C.length := List.countP_le_length
theorem wf_small {c : Int} (h1 : -100 ≤ c) (h2 : c ≤ 100) : (Lit.int .i64 c).wf = true := WalkArith.wf_i64 ⟨by omega, by omega⟩
theorem MapC.push' {D : DataW Unit} {C C' : List ByteArray} {s : ByteArray} {c : Int} (h : MapC D C) (hD : IsMap D) (hs : WideAt.IsKeyLit (.string s.data.toList)) (p : C'.Perm (C ++ [s])) (hc : c = (cntT C s.data.toList : Int)) : MapC (D.put (.string s.data.toList) (.lit (.int .i64 (c + 1)))) C' := by
  subst hc
  exact (h.push hD hs).perm ((List.perm_append_singleton s C).symm.trans p.symm)
theorem MapC.pop' {D : DataW Unit} {C C' : List ByteArray} {s : ByteArray} {c : Int} (h : MapC D C) (hD : IsMap D) (hs : WideAt.IsKeyLit (.string s.data.toList)) (p : C.Perm (s :: C')) (hc : c = (cntT C s.data.toList : Int)) : MapC (D.put (.string s.data.toList) (.lit (.int .i64 (c - 1)))) C' := by
  subst hc
  rw [cntT_perm p]
  exact (h.perm p).pop hD hs
theorem keyOf_string_inv' {k : TypeId} (hk : Try.prog.underlying k = some .string) {key : Value} {kl : Lit} (h : keyOf Try.prog k key = some kl) : ∃ s : ByteArray, key = .string s := by
  cases key <;> simp [keyOf, hk, mapKey] at h
  exact ⟨_, rfl⟩
theorem keyOf_kl {k : TypeId} (hk : Try.prog.underlying k = some .string) {y : ByteArray} {kl : Lit} (h : keyOf Try.prog k (.string y) = some kl) : kl = .string y.data.toList := by
  simp [keyOf, hk, mapKey] at h
  exact h.2.symm
theorem own_same {w w' : World} {k : TypeId} {R : Value → Option (DataW Unit × List MemPlace)} {b n : Nat} {D : DataW Unit} (h : w.ownsMap Try.prog k R b n D) (e : w'.heap[b]? = w.heap[b]?) : w'.ownsMap Try.prog k R b n D := by
  obtain ⟨es, clock, h1, h2⟩ := h
  exact ⟨es, clock, by rw [e]; exact h1, h2⟩
theorem own_map {w : World} {k : TypeId} {R : Value → Option (DataW Unit × List MemPlace)} {b n : Nat} {D : DataW Unit} (h : w.ownsMap Try.prog k R b n D) : ∀ (cur : Array Value) (T : TypeId), w.heap[b]? ≠ some (.cells cur T (0, 0)) := by
  obtain ⟨es, clock, h1, h2⟩ := h
  intro cur T e
  rw [h1] at e
  injection e with e
  cases e
/-- Blocks that bear no cells are as they were. -/
def NoC (w w' : World) : Prop := ∀ b, b < w.heap.size → (∀ (cur : Array Value) (T : TypeId), w.heap[b]? ≠ some (.cells cur T (0, 0))) → w'.heap[b]? = w.heap[b]?
theorem noc_of {w w' : World} {bp bd : Nat} {C : List ByteArray} {G : List Nat} (h : TX.At w bp bd C G) (k : Keep (· ∈ bp :: G) w w') : NoC w w' := by
  obtain ⟨A, n, c, q1, q2, q3⟩ := h
  refine fun b hb hc => k.block b hb (fun q => ?_)
  rcases List.mem_cons.1 q with e | q
  · subst e; exact hc _ _ q1
  · obtain ⟨cu, q4⟩ := q3.kind b q
    exact hc _ _ q4
theorem push_m (bp bd : Nat) (C : List ByteArray) (x : ByteArray) (w0 w : World) (h : TX.In w0 w bp bd C) (hs : C.length < 1000) : Calls Try.prog 21 #[.pointer (some ⟨bp, 0, none⟩), .string x] w fun e w' => e = .returned (.tuple #[]) ∧ ∃ C', TX.In w0 w' bp bd C' ∧ C'.Perm (C ++ [x]) ∧ NoC w w' := by
  obtain ⟨G, h1, h2, h3⟩ := h
  exact (TX.push_any bp bd C G x w h1 hs).mono fun e w' ⟨q1, C', G', q2, q3, q4, q5⟩ => ⟨q1, C', TX.in_of h1 h2 h3 q5 q2 q4, q3, noc_of h1 q5⟩
theorem pop_m (bp bd : Nat) (C : List ByteArray) (w0 w : World) (h : TX.In w0 w bp bd C) (hc : C ≠ []) (hs : C.length ≤ 1000) : Calls Try.prog 22 #[.pointer (some ⟨bp, 0, none⟩)] w fun e w' => ∃ x C', e = .returned (.tuple #[.string x, .bool true]) ∧ TX.Least C x ∧ TX.In w0 w' bp bd C' ∧ C.Perm (x :: C') ∧ NoC w w' := by
  obtain ⟨G, h1, h2, h3⟩ := h
  exact (TX.pop_any bp bd C G w h1 hc hs).mono fun e w' ⟨x, C', G', q1, q2, q3, q4, q5, q6⟩ => ⟨x, C', q1, q2, TX.in_of h1 h2 h3 q6 q3 q5, q4, noc_of h1 q6⟩
theorem in_map {w0 w w' : World} {bp bd b : Nat} {C : List ByteArray} (h : TX.In w0 w bp bd C) (g : w.grownBy w' (some b)) (hb : w0.heap.size ≤ b) (hc : ∀ (cur : Array Value) (T : TypeId), w.heap[b]? ≠ some (.cells cur T (0, 0))) : TX.In w0 w' bp bd C := by
  obtain ⟨G, ⟨A, n, c, q1, q2, q3⟩, h2, h3⟩ := h
  have k : Keep (· = b) w w' := ⟨g.os, g.tape, g.output, g.size, fun q hq hn => g.block q hq (fun e => hn (by injection e))⟩
  exact ⟨G, ⟨A, n, c, Arr.keep q1 k (fun e => by subst e; exact hc _ _ q1), trivial, q3.same fun q hq => k.block q (q3.lt q hq) (fun e => by obtain ⟨cu, q4⟩ := q3.kind q hq; rw [e] at q4; exact hc _ _ q4)⟩, h2, k.below (fun q hq => by subst hq; exact hb) h3 h3.size⟩
theorem bel_iter {W w w' : World} {r : Nat} (h : Below W.heap.size W w) (g : w.grownBy w' (some r)) (hr : W.heap.size ≤ r) : Below W.heap.size W w' := Below.grown h g h.size (fun k hk => by injection hk with hk; omega)
set_option maxHeartbeats 4000000 in
theorem htexts_any (A : Option Addr) (len cap : Nat) (A1 : Option Addr) (len1 cap1 : Nat) (w : World) (hl : len ≤ maxLen) (hl1 : len1 ≤ maxLen)
    (hs : ∀ k, k < len → ∃ b o s, A = some ⟨b, o, none⟩ ∧ b < w.heap.size ∧ w.cell? ⟨b, o + k, none⟩ = some (.string s) ∧ s.size ≤ maxLen) (hb : ∀ k, k < len1 → ∃ b o x, A1 = some ⟨b, o, none⟩ ∧ b < w.heap.size ∧ w.cell? ⟨b, o + k, none⟩ = some (.bool x)) :
    Calls Try.prog 6 #[.slice A len cap, .slice A1 len1 cap1] w fun e w' => e = .returned (.bool true) ∧ Below w.heap.size w w' := by
  unfold maxLen at hl hl1
  have HS := Lib.hid hs; have HB := Lib.hid hb
  have N1 := Lib.hid (TX.new_in 0 w w trivial (Below.refl _ _))
  have hmm := @run_makeMap Try.prog
  clear hs hb
  unfold TX.fv at N1
  go_enter Try.func6, Try.ntmps6
  go_wp2_with fail
  refine N1.out.mono ?_
  rintro e w1 ⟨rfl, in1, b1⟩
  obtain ⟨bp, hbp⟩ : ∃ b, b = w.heap.size := ⟨_, rfl⟩
  rw [← hbp] at in1 ⊢
  have I1 := Lib.hid in1
  clear N1 in1 b1 hbp
  go_wp2_with fail
  obtain ⟨bm, hbm⟩ : ∃ b, b = w1.heap.size := ⟨_, rfl⟩
  obtain ⟨w2, hw2⟩ : ∃ W, W = w1.alloc (.map #[] 0) := ⟨_, rfl⟩
  have M2 : Hid (w2.ownsMap Try.prog 9 (plainElem (H := Unit) Try.prog 3) bm 0 (.map [])) := Lib.hid (by rw [hw2, hbm]; exact World.ownsMap_made _ _ _ _)
  have I2 := Lib.hid (I1.out.older (show Below w1.heap.size w1 w2 by rw [hw2]; exact (Below.refl _ _).alloc (Nat.le_refl _) _))
  have hbw : w.heap.size ≤ bm := by have := I1.out.bel.size; omega
  rw [← hw2, ← hbm]
  clear hw2 hbm I1
  go_loopw [7, 8] (fun nv iv wr => ∃ (i n : Nat) (C : List ByteArray) (D : DataW Unit), i ≤ 40 ∧ iv = .int .i64 i ∧ nv = .int .i64 n ∧ C.length = n ∧ n ≤ i ∧ TX.In w wr bp 0 C ∧ wr.ownsMap Try.prog 9 (plainElem (H := Unit) Try.prog 3) bm (2 * i) D ∧ MapC D C ∧ ∀ t, t ∈ C → t.size ≤ maxLen) (fun _ iv _ => 40 - (intOf iv).toNat)
  case atStart => exact ⟨0, 0, [], _, by omega, rfl, rfl, rfl, Nat.le_refl _, I2.out, M2.out, fun l => rfl, fun t ht => nomatch ht⟩
  case round =>
    clear I2 M2
    obtain ⟨i, n, C, D, hi, rfl, rfl, hC, hni, hin, hm, hmc, hz⟩ := hrel
    by_cases hgo : i < len ∧ i < 40
    · obtain ⟨hg1, hg2⟩ := hgo
      have i1 : decide ((i : Int) < (len : Int)) = true := by rw [decide_eq_true_eq]; omega
      have i2 : decide ((i : Int) < 40) = true := by rw [decide_eq_true_eq]; omega
      have i3 : (i : Int) < (len : Int) := by omega
      obtain ⟨b, o, s0, rfl, hbl, z0, hsz⟩ := HS.out i hg1
      have y0 : wr.cell? ⟨b, o + i, none⟩ = some (.string s0) := by rw [hin.bel.cell (p := ⟨b, o + i, none⟩) hbl]; exact z0
      have IN := Lib.hid hin; have MM := Lib.hid hm; have MC := Lib.hid hmc; have HC := Lib.hid hC; have HZ := Lib.hid hz
      clear z0 hin hm hmc hC hz
      go_wp2_with fail
      go_quiet (fail)
      go_wp2_with fail
      obtain ⟨S, hS⟩ : ∃ S, S = s0.extract 0 (min (↑s0.size) 9 : Int).toNat := ⟨_, rfl⟩
      rw [← hS]
      have hSs : S.size ≤ maxLen := by rw [hS, ByteArray.size_extract]; have := hsz; omega
      clear hS
      have KS : Hid (keyOf Try.prog 9 (.string S) = some (.string S.data.toList)) := Lib.hid (WideMaps.keyOf_string_mk Try.underlying9 hSs)
      obtain ⟨wx, hwx⟩ : ∃ wx, wx = wr.drewN nq := ⟨_, rfl⟩
      have IX := Lib.hid (show TX.In w wx bp 0 C by rw [hwx]; exact IN.out.older (belowN wr nq))
      have MX := Lib.hid (show wx.ownsMap Try.prog 9 (plainElem (H := Unit) Try.prog 3) bm (2 * i) D by rw [hwx]; exact own_same MM.out rfl)
      rw [← hwx]
      clear hwx IN MM y0
      refine (push_m bp 0 C S w wx IX.out (by have := HC.out; omega)).mono ?_
      rintro e w3 ⟨rfl, C', in3, p3, nc3⟩
      have I3 := Lib.hid in3; have P3 := Lib.hid p3
      have HC' : Hid (C'.length = n + 1) := Lib.hid (by have := p3.length_eq; rw [List.length_append] at this; have := HC.out; simpa [HC.out] using p3.length_eq)
      have M3 := Lib.hid (own_same MX.out (nc3 bm MX.out.lt (own_map MX.out)))
      clear in3 p3 nc3 IX MX
      go_upto_region 12 with (first
        | (at_lookup; (refine wpList_lookup_own_int _ rfl _ _ 50 rfl 9 3 .i64 Try.slaw Try.underlying50 Try.underlying3 (Try.zint _) bm (2 * i) D rfl M3.out (.string S) (.string S.data.toList) rfl KS.out ?_); intro c hat hwc; have CQ := Lib.hid (lit_inj (hat.symm.trans (MC.out S.data.toList))); have c1 : 0 ≤ c := (by have := CQ.out; omega); have c2 : c ≤ 40 := (by have := CQ.out; have := cnt_le C S.data.toList; have := HC.out; omega); clear hat hwc)
        | (at_mapUpdate; (refine wpList_mapUpdate_own _ rfl _ _ _ 50 rfl 9 3 Try.slaw Try.underlying50 (plainElem (H := Unit) Try.prog 3) bm (2 * i) D rfl M3.out (by unfold maxLen; omega) (.string S) (.int .i64 (c + 1)) (.string S.data.toList) rfl rfl KS.out _ _ (plainElem_int Try.underlying3 (wf_small (by omega) (by omega))) ?_); intro w4 m4 g4; have I4 := Lib.hid (in_map I3.out g4 hbw (own_map M3.out)); have MC4 := Lib.hid (MapC.push' MC.out M3.out.isMap (Try.slaw.key KS.out) P3.out CQ.out); have M4 := Lib.hid m4; clear m4 g4)
        | fail)
      have hcase : (decide ((i : Int) < (len1 : Int)) = false) ∨ (i < len1 ∧ ∃ b1 o1, A1 = some ⟨b1, o1, none⟩ ∧ w4.cell? ⟨b1, o1 + i, none⟩ = some (.bool false)) ∨ (i < len1 ∧ ∃ b1 o1, A1 = some ⟨b1, o1, none⟩ ∧ w4.cell? ⟨b1, o1 + i, none⟩ = some (.bool true)) := by
        by_cases h : i < len1
        · obtain ⟨b1, o1, x, e1, l1, z1⟩ := HB.out i h
          have z2 : w4.cell? ⟨b1, o1 + i, none⟩ = some (.bool x) := by rw [I4.out.bel.cell (p := ⟨b1, o1 + i, none⟩) l1]; exact z1
          cases x
          · exact Or.inr (Or.inl ⟨h, b1, o1, e1, z2⟩)
          · exact Or.inr (Or.inr ⟨h, b1, o1, e1, z2⟩)
        · exact Or.inl (by rw [decide_eq_false_iff_not]; omega)
      have LE4 : Hid (Calls Try.prog 23 #[.pointer (some ⟨bp, 0, none⟩)] w4 fun e w' => e = .returned (.int .i64 ((n : Int) + 1)) ∧ w4 = w') := Lib.hid (by
        have h := TX.len_in bp 0 C' w w4 I4.out
        have q : ((C'.length : Nat) : Int) = (n : Int) + 1 := by have := HC'.out; omega
        rw [q] at h
        exact h)
      have HZ' : Hid (∀ t, t ∈ C' → t.size ≤ maxLen) := Lib.hid (fun t ht => by
        rcases List.mem_append.1 (P3.out.mem_iff.1 ht) with q | q
        · exact HZ.out t q
        · rw [List.mem_singleton] at q; rw [q]; exact hSs)
      clear I3 M3 P3 HZ
      obtain ⟨D4, hD4⟩ : ∃ D4, D4 = D.put (.string S.data.toList) (.lit (.int .i64 (c + 1))) := ⟨_, rfl⟩
      rw [← hD4] at MC4 M4
      clear hD4
      rcases hcase with k1 | ⟨k0, b1, o1, rfl, k2⟩ | ⟨k0, b1, o1, rfl, k2⟩
      · have k0 : ¬ (i < len1) := by rw [decide_eq_false_iff_not] at k1; omega
        have k3 : ¬ ((i : Int) < (len1 : Int)) := by omega
        go_wp2_with fail
        refine LE4.out.mono ?_
        rintro e w5 ⟨rfl, rfl⟩
        go_wp2_with fail
        go_roundw
        case rel => first | exact ⟨i + 1, n + 1, C', D4, by omega, by go_num, by go_num, HC'.out, by omega, I4.out, M4.out.mono (by omega), MC4.out, HZ'.out⟩ | ((repeat apply Exists.intro); exact ⟨⟨i + 1, n + 1, C', D4, by omega, by go_num, by go_num, HC'.out, by omega, I4.out, M4.out.mono (by omega), MC4.out, HZ'.out⟩, rfl⟩)
        case measure => simp [intOf]; omega
      · have k1 : decide ((i : Int) < (len1 : Int)) = true := by rw [decide_eq_true_eq]; omega
        have k3 : (i : Int) < (len1 : Int) := by omega
        go_wp2_with fail
        refine LE4.out.mono ?_
        rintro e w5 ⟨rfl, rfl⟩
        go_wp2_with fail
        go_roundw
        case rel => first | exact ⟨i + 1, n + 1, C', D4, by omega, by go_num, by go_num, HC'.out, by omega, I4.out, M4.out.mono (by omega), MC4.out, HZ'.out⟩ | ((repeat apply Exists.intro); exact ⟨⟨i + 1, n + 1, C', D4, by omega, by go_num, by go_num, HC'.out, by omega, I4.out, M4.out.mono (by omega), MC4.out, HZ'.out⟩, rfl⟩)
        case measure => simp [intOf]; omega
      · have k1 : decide ((i : Int) < (len1 : Int)) = true := by rw [decide_eq_true_eq]; omega
        have k3 : (i : Int) < (len1 : Int) := by omega
        go_wp2_with fail
        have hne : C' ≠ [] := fun e => by have := HC'.out; rw [e] at this; simp at this
        refine (pop_m bp 0 C' w w4 I4.out hne (by have := HC'.out; omega)).mono ?_
        rintro e w5 ⟨x, C5, rfl, ls5, in5, p5, nc5⟩
        have I5 := Lib.hid in5; have P5 := Lib.hid p5; have LS5 := Lib.hid ls5
        have M5 := Lib.hid (own_same M4.out (nc5 bm M4.out.lt (own_map M4.out)))
        have HC5 : Hid (C5.length = n) := Lib.hid (by have q := p5.length_eq; have := HC'.out; rw [List.length_cons] at q; omega)
        have HX := Lib.hid (p5.symm.mem_iff.1 (List.mem_cons_self (a := x) (l := C5)))
        have hxs : x.size ≤ maxLen := HZ'.out x HX.out
        have KX : Hid (keyOf Try.prog 9 (.string x) = some (.string x.data.toList)) := Lib.hid (WideMaps.keyOf_string_mk Try.underlying9 hxs)
        have HZ5 : Hid (∀ t, t ∈ C5 → t.size ≤ maxLen) := Lib.hid (fun t ht => HZ'.out t (p5.symm.mem_iff.1 (List.mem_cons_of_mem _ ht)))
        clear in5 p5 ls5 nc5 LE4 I4 M4
        obtain ⟨c5, hr5, hat5, hwc5⟩ := M5.out.lookup_int Try.slaw (t := 50) Try.underlying50 Try.underlying3 (Try.zint _) KX.out
        have CQ5 := Lib.hid (lit_inj (hat5.symm.trans (MC4.out x.data.toList)))
        have c51 : 1 ≤ c5 := by have q := CQ5.out; rw [cntT_perm P5.out, cntT_cons, if_pos rfl] at q; omega
        have c52 : c5 ≤ 41 := by have q := CQ5.out; have := cnt_le C' x.data.toList; have := HC'.out; omega
        have j5 : decide (c5 < 1) = false := by rw [decide_eq_false_iff_not]; omega
        clear hat5 hwc5 CQ c1 c2
        go_upto_region 18 with (first
          | (at_mapUpdate; (refine wpList_mapUpdate_own _ rfl _ _ _ 50 rfl 9 3 Try.slaw Try.underlying50 (plainElem (H := Unit) Try.prog 3) bm (2 * i + 1) D4 rfl M5.out (by unfold maxLen; omega) (.string x) (.int .i64 (c5 - 1)) (.string x.data.toList) rfl rfl KX.out _ _ (plainElem_int Try.underlying3 (wf_small (by omega) (by omega))) ?_); intro w6 m6 g6; have I6 := Lib.hid (in_map I5.out g6 hbw (own_map M5.out)); have MC6 := Lib.hid (MapC.pop' MC4.out M5.out.isMap (Try.slaw.key KX.out) P5.out CQ5.out); have M6 := Lib.hid m6; clear m6 g6)
          | fail)
        obtain ⟨D6, hD6⟩ : ∃ D6, D6 = D4.put (.string x.data.toList) (.lit (.int .i64 (c5 - 1))) := ⟨_, rfl⟩
        rw [← hD6] at MC6 M6
        clear hD6
        go_wp2_with (first
          | (at_range; (refine wpList_range_own _ rfl _ 50 rfl 9 3 Try.slaw Try.underlying50 (plainElem (H := Unit) Try.prog 3) bm (2 * i + 1 + 1) D6 rfl M6.out ?_); intro w7 hrg0 hg0 hs0; have RG7 := Lib.hid hrg0; have B7 := Lib.hid (Below.grown (Below.refl w6.heap.size w6) hg0 (Nat.le_refl _) (fun k hk => by cases hk)); clear hrg0 hg0 hs0)
          | fail)
        go_frame
        go_loopw [12, 13] (fun _ _ wq => ∃ left cnt, wq.ranges Try.prog 9 (plainElem (H := Unit) Try.prog 3) bm w6.heap.size (2 * i + 1 + 1) D6 left cnt ∧ Below w6.heap.size w6 wq) (fun _ _ wq => wq.rangeLeft bm w6.heap.size)
        case atStart => exact ⟨_, _, RG7.out, B7.out⟩
        case round =>
          clear RG7 B7
          obtain ⟨left, cnt, hrg, hbl⟩ := hrel
          have RG := Lib.hid hrg; have BL := Lib.hid hbl
          clear hrg hbl
          go_wp2_with (first
            | (at_next; refine wpList_next_ranges _ rfl _ rfl 9 Try.slaw (plainElem (H := Unit) Try.prog 3) Value.string (Value.int .i64) (fun key kl h => keyOf_string_inv' Try.underlying9 h) (fun v y h => by obtain ⟨c, rfl, _⟩ := plainElem_int_inv Try.underlying3 h; exact ⟨c, rfl⟩) bm w6.heap.size (2 * i + 1 + 1) D6 left cnt rfl RG.out ?_ ?_)
            | fail)
          · intro hc0 hl0
            clear hc0 hl0
            have IQ := Lib.hid (I6.out.older BL.out)
            have MQ := Lib.hid RG.out.owns
            have LEQ : Hid (Calls Try.prog 23 #[.pointer (some ⟨bp, 0, none⟩)] wr fun e w' => e = .returned (.int .i64 (n : Int)) ∧ wr = w') := Lib.hid (by
              have h := TX.len_in bp 0 C5 w wr IQ.out
              rw [HC5.out] at h
              exact h)
            go_wp2_with fail
            refine LEQ.out.mono ?_
            rintro e w9 ⟨rfl, rfl⟩
            go_wp2_with fail
            go_roundw
            case rel => first | exact ⟨i + 1, n, C5, D6, by omega, by go_num, by go_num, HC5.out, by omega, IQ.out, MQ.out, MC6.out, HZ5.out⟩ | ((repeat apply Exists.intro); exact ⟨⟨i + 1, n, C5, D6, by omega, by go_num, by go_num, HC5.out, by omega, IQ.out, MQ.out, MC6.out, HZ5.out⟩, rfl⟩)
            case measure => simp [intOf]; omega
          · intro y k kl yd yp w8 cnt8 hkey hlk hv hat hrg8 hlt hg8 hs8 hen
            have R8 := Lib.hid hrg8; have LT := Lib.hid hlt
            have B8 := Lib.hid (bel_iter BL.out hg8 (Nat.le_refl _))
            have q1 : k = (cntT C5 y.data.toList : Int) := by
              obtain ⟨a, e1, e2, _⟩ := plainElem_int_inv Try.underlying3 hv
              cases e1
              have q := hat (.lit (.int .i64 0))
              rw [keyOf_kl Try.underlying9 hkey, MC6.out] at q
              injection e2 with e2 e3
              rw [e2] at q
              exact (lit_inj q).symm
            have hkk : k > 0 → (x.size : Int) ≤ (y.size : Int) := fun hp => by
              have hy : y ∈ C5 := cntT_pos (by omega)
              have := LS5.out.2 y (P5.out.symm.mem_iff.1 (List.mem_cons_of_mem _ hy))
              simpa [TX.K] using this
            clear hkey hlk hv hat hrg8 hlt hg8 hs8 q1
            by_cases hp : k > 0
            · have hq := hkk hp
              have t1 : decide (k > 0) = true := by rw [decide_eq_true_eq]; exact hp
              have t2 : decide ((y.size : Int) < (x.size : Int)) = false := by rw [decide_eq_false_iff_not]; omega
              have t3 : 0 < k := hp
              have t4 : ¬ (y.size < x.size) := by omega
              have t5 : ¬ ((y.size : Int) < (x.size : Int)) := by omega
              clear hkk
              go_wp2_with fail
              go_roundw
              case rel => first | exact ⟨_, _, R8.out, B8.out⟩ | ((repeat apply Exists.intro); exact ⟨⟨_, _, R8.out, B8.out⟩, rfl⟩)
              case measure => rw [R8.out.left_eq, RG.out.left_eq]; exact LT.out
            · have t1 : decide (k > 0) = false := by rw [decide_eq_false_iff_not]; exact hp
              have t3 : ¬ (0 < k) := hp
              clear hkk
              go_wp2_with fail
              go_roundw
              case rel => first | exact ⟨_, _, R8.out, B8.out⟩ | ((repeat apply Exists.intro); exact ⟨⟨_, _, R8.out, B8.out⟩, rfl⟩)
              case measure => rw [R8.out.left_eq, RG.out.left_eq]; exact LT.out
    · have HRU := Lib.hid (hruns_any wr)
      have IN := Lib.hid hin
      have i1 : (decide ((i : Int) < (len : Int)) = false) ∨ (decide ((i : Int) < (len : Int)) = true ∧ i = 40) := by
        by_cases h : i < len
        · exact Or.inr ⟨by rw [decide_eq_true_eq]; omega, by omega⟩
        · exact Or.inl (by rw [decide_eq_false_iff_not]; omega)
      clear hin hm hmc hC hz
      rcases i1 with i1 | ⟨i1, rfl⟩
      · go_wp2_with fail
        all_goals
          refine HRU.out.mono ?_
          rintro e w5 ⟨rfl, b5⟩
          have B5 := Lib.hid (bstep IN.out.bel b5)
          clear b5
          go_wp2_with fail
          go_ret
          exact ⟨rfl, B5.out⟩
      · have i2 : decide (((40 : Nat) : Int) < 40) = false := by decide
        have i3 : (40 : Int) < (len : Int) := by rw [decide_eq_true_eq] at i1; omega
        have i4 : decide ((40 : Int) < (len : Int)) = true := by rw [decide_eq_true_eq]; exact i3
        go_wp2_with fail
        all_goals
          refine HRU.out.mono ?_
          rintro e w5 ⟨rfl, b5⟩
          have B5 := Lib.hid (bstep IN.out.bel b5)
          clear b5
          go_wp2_with fail
          go_ret
          exact ⟨rfl, B5.out⟩
end Go.Proofs.Ytkgjbmlgbfejlaa
