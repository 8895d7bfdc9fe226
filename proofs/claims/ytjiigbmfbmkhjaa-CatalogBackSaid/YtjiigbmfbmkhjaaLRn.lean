/-
  The document's own low (sheafref5), onto nothing.
-/
import Derived.Test.YtjiigbmfbmkhjaaLRa
import Derived.Test.YtjiigbmfbmkhjaaKeep
import Derived.Deep.AppendLies
namespace Go.Proofs.Ytjiigbmfbmkhjaa
set_option linter.unusedVariables false
set_option linter.unusedSimpArgs false
open Go.RowKit

/-- An append onto nothing. -/
theorem app_nil (w : World) {ops : Array Oper} {rs : List Oper} {o : Oper} {a : Act} {Q : Exit → Act → World → Prop} (hgd : o.guard = none)
    (s x : Operand) (ho : o.op = .call { callee := .builtin .append, args := #[s, x], argTypes := #[45, 45] })
    (base : Nat) (hs : a.eval s = .slice none 0 0)
    (B : Nat) (A : Option Addr) (m c : Nat) (xs : List Int) (hm : xs.length = m) (hx : a.eval x = .slice A m c) (hr : RdB w B A xs) (h0 : 0 < m)
    (hl : m ≤ 1000000) (hbase : base ≤ w.heap.size)
    (h : ∀ g' cap' w', Own w' base g' cap' xs → Below w.heap.size w w' → wpList Try.prog ops Q rs (a.put o.dst (.slice (some ⟨g', 0, none⟩) m cap')) w') :
    wpList Try.prog ops Q (o :: rs) a w := by
  subst hm
  obtain ⟨i0, hi, hz0, hz1, hz2⟩ := info_parts Try.info_byte
  obtain ⟨b, o', rfl, _, _, _⟩ := hr 0 h0
  refine wpList_append_own w hgd s x 45 ho base 5 i0 (.int .u8 0) 1 1 Try.underlying45 hi hz0 hz1 hz2 rfl (by decide) (.slice none 0 0) 0 [] hs ⟨rfl, Or.inl ⟨rfl, rfl⟩⟩ ⟨b, o', none⟩ xs.length c (vals xs) hx (by rw [vals_length, Nat.mul_one]) hr.news (vals_one xs) (by unfold maxLen; omega) (by omega) hbase ?_
  intro v' w' h1 h2 h3
  have hpos : 0 < 0 + xs.length := by omega
  obtain ⟨g', cap', hv, _, _⟩ := h1.form hpos
  subst hv
  rw [List.nil_append, Nat.zero_add] at h1
  have := h g' cap' w' ⟨h1, fun k hk => by obtain ⟨_, _, _, _, _, hu⟩ := hr k hk; exact hu⟩ (Below.grown (Below.refl _ _) h2 (Nat.le_refl _) (fun k hk => by cases hk))
  rw [Nat.zero_add]
  exact this
set_option maxHeartbeats 400000 in
theorem low_nil (m : Nat) (n : Int) (w : World) (hm0 : 0 < m) (hm : m ≤ 4) (h0 : 0 ≤ n) (h1 : n ≤ 4294967295) :
    Calls Try.prog 37 #[.slice none 0 0, .int .i64 n, .int .i64 m] w (LowL w.heap.size 0 m (lowL n m) w) := by
  go_enter Try.func37, Try.ntmps37
  go_wp2
  go_loopw [0, 7, 9] (fun bv _ iv wr => ∃ j : Nat, j ≤ m ∧ iv = .int .i64 (j : Int) ∧ ((j = 0 ∧ bv = .slice none 0 0) ∨ ∃ g' c', bv = .slice (some ⟨g', 0, none⟩) j c' ∧ Own wr w.heap.size g' c' (lowL n j)) ∧ Below w.heap.size w wr) (fun _ _ iv _ => m - (intOf iv).toNat)
  case atStart => exact ⟨0, Nat.zero_le _, rfl, Or.inl ⟨rfl, rfl⟩, Below.refl _ _⟩
  case round =>
    obtain ⟨j, hj, rfl, hrow, bel⟩ := hrel
    have BL := Lib.hid bel
    clear bel
    by_cases hlt : j < m
    · have i1 : decide ((j : Int) < (m : Int)) = true := by rw [decide_eq_true_eq]; omega
      obtain ⟨x, hx⟩ : ∃ x, n / 2 ^ (8 * j) % 256 = x := ⟨_, rfl⟩
      have ux : U8 x := by unfold U8; omega
      have UX : Hid (∀ q, q < ([x] : List Int).length → U8 (([x] : List Int).getD q 0)) := Lib.hid (fun q hq => by
        obtain rfl : q = 0 := by simp at hq; omega
        exact ux)
      have NX := Lib.hid (lowL_succ n j)
      rw [hx] at NX
      rcases hrow with ⟨rfl, rfl⟩ | ⟨g', c', rfl, ho⟩
      · have hx0 : n % 256 = x := by rw [← hx]; simp
        have N0 : Hid ([x] = lowL n 1) := Lib.hid (by have := NX.out; rw [show lowL n 0 = [] from rfl, List.nil_append, Nat.zero_add] at this; exact this.symm)
        clear hx NX
        go_wp2_with (at_builtin; go_loud (refine app_nil _ rfl _ _ rfl w.heap.size rfl (wr.heap.size + 1) (some ⟨wr.heap.size, 0, none⟩) 1 1 [x] rfl rfl ?c1 ?c2 ?c3 ?c4 ?_))
        case c1 => exact RdB.lit wr #[.int .u8 x] 5 _ [x] rfl UX.out
        case c2 => decide
        case c3 => decide
        case c4 => have := BL.out.size; simp; omega
        intro g2 c2 w2 o2 b2
        have O2 : Hid (Own w2 w.heap.size g2 c2 (lowL n 1)) := Lib.hid (by rw [← N0.out]; exact o2)
        have B2 : Hid (Below w.heap.size w w2) := Lib.hid ((BL.out.alloc BL.out.size _).trans (b2.mono (by have := BL.out.size; simp; omega)))
        clear o2 b2 hx0
        go_wp2
        go_roundw
        case rel => exact ⟨1, by omega, by go_num, Or.inr ⟨g2, c2, rfl, O2.out⟩, B2.out⟩
        case measure => simp [intOf]; omega
      · have HO' := Lib.hid ho
        have LX : Hid ((lowL n j).length = j) := Lib.hid (lowL_len n j)
        clear ho
        go_wp2_with (at_builtin; go_loud (refine app_rd _ rfl _ _ rfl w.heap.size g' c' j (lowL n j) LX.out rfl (HO'.out.alloc _) (wr.heap.size + 1) (some ⟨wr.heap.size, 0, none⟩) 1 1 [x] rfl rfl ?c5 (fun h => by cases h) ?c6 ?c7 ?_))
        case c5 => exact RdB.lit wr #[.int .u8 x] 5 _ [x] rfl UX.out
        case c6 => omega
        case c7 => have := BL.out.size; simp; omega
        intro g2 c2 w2 o2 hgr
        have O2 : Hid (Own w2 w.heap.size g2 c2 (lowL n (j + 1))) := Lib.hid (by rw [NX.out]; exact o2)
        have gl := HO'.out.lt.1
        have B2 : Hid (Below w.heap.size w w2) := Lib.hid (Below.grown (BL.out.alloc BL.out.size _) hgr (by have := BL.out.size; simp; omega) (fun q hq => by injection hq with hq; omega))
        clear o2 hgr hx
        go_wp2
        go_roundw
        case rel => exact ⟨j + 1, by omega, by go_num, Or.inr ⟨g2, c2, rfl, O2.out⟩, B2.out⟩
        case measure => simp [intOf]; omega
    · obtain rfl : j = m := by omega
      have i1 : decide ((j : Int) < (j : Int)) = false := by simp
      rcases hrow with ⟨rfl, rfl⟩ | ⟨g', c', rfl, ho⟩
      · omega
      · have HO' := Lib.hid ho
        clear ho
        go_wp2
        go_ret
        exact ⟨g', c', by rw [Nat.zero_add]; rfl, HO'.out, BL.out⟩
/-- An append onto one's own row, and where the row lies behind it. -/
theorem app_at (w : World) {ops : Array Oper} {rs : List Oper} {o : Oper} {a : Act} {Q : Exit → Act → World → Prop} (hgd : o.guard = none)
    (s x : Operand) (ho : o.op = .call { callee := .builtin .append, args := #[s, x], argTypes := #[45, 45] })
    (base g cap k : Nat) (ys : List Int) (hk : ys.length = k) (hs : a.eval s = .slice (some ⟨g, 0, none⟩) k cap) (hown : Own w base g cap ys)
    (B : Nat) (A : Option Addr) (m c : Nat) (xs : List Int) (hm : xs.length = m) (hx : a.eval x = .slice A m c) (hr : RdB w B A xs) (h0 : 0 < m)
    (hl : k + m ≤ 1000000) (hbase : base ≤ w.heap.size)
    (h : ∀ g' cap' w', Own w' base g' cap' (ys ++ xs) → Keep (· = g) w w' → (g' = g ∨ w.heap.size ≤ g') → wpList Try.prog ops Q rs (a.put o.dst (.slice (some ⟨g', 0, none⟩) (k + m) cap')) w') :
    wpList Try.prog ops Q (o :: rs) a w := by
  subst hk hm
  obtain ⟨i0, hi, hz0, hz1, hz2⟩ := info_parts Try.info_byte
  have hU : ∀ k, k < (ys ++ xs).length → U8 ((ys ++ xs).getD k 0) := fun k hk => by
    rw [getD_append]
    rw [List.length_append] at hk
    split
    · exact hown.2 k (by assumption)
    · obtain ⟨_, _, _, _, _, hu⟩ := hr (k - ys.length) (by omega)
      exact hu
  obtain ⟨b, o', rfl, _, _, _⟩ := hr 0 h0
  refine wpList_append_lies w hgd s x 45 ho base 5 i0 (.int .u8 0) 1 1 Try.underlying45 hi hz0 hz1 hz2 rfl (by decide) _ ys.length (vals ys) hs hown.1 ⟨b, o', none⟩ xs.length c (vals xs) hx (by rw [vals_length, Nat.mul_one]) hr.news (vals_one xs) h0 (by unfold maxLen; omega) (by omega) hbase w.heap.size rfl ?_
  intro g' cap' w' h1 h2 h3 _
  rw [vals_append, ← List.length_append] at h1
  have := h g' cap' w' ⟨h1, hU⟩ ⟨h2.os, h2.tape, h2.output, h2.size, fun q hq hn => h2.block q hq (fun e => hn (by injection e))⟩ (by
    rcases h3 with e | e
    · have e : some g = some g' := e
      injection e with e
      exact Or.inl e.symm
    · exact Or.inr (by omega))
  exact this
/-- What low leaves, and what it leaves alone. -/
def LowK (base g k m : Nat) (ys : List Int) (w : World) (e : Ending) (w' : World) : Prop :=
  ∃ g' c, e = .returned (.slice (some ⟨g', 0, none⟩) (k + m) c) ∧ Own w' base g' c ys ∧ Keep (· = g) w w' ∧ (g' = g ∨ w.heap.size ≤ g')
set_option maxHeartbeats 400000 in
theorem low_keep (base g cap k m : Nat) (n : Int) (xs : List Int) (w : World) (ho : Own w base g cap xs) (hk : xs.length = k) (hk1 : k ≤ 1000) (hm : m ≤ 4) (h0 : 0 ≤ n) (h1 : n ≤ 4294967295) (hb : base ≤ w.heap.size) :
    Calls Try.prog 37 #[.slice (some ⟨g, 0, none⟩) k cap, .int .i64 n, .int .i64 m] w (LowK base g k m (xs ++ lowL n m) w) := by
  have HO := Lib.hid ho; have HK := Lib.hid hk
  clear ho hk
  go_enter Try.func37, Try.ntmps37
  go_wp2
  go_loopw [0, 7, 9] (fun bv _ iv wr => ∃ j : Nat, j ≤ m ∧ iv = .int .i64 (j : Int) ∧ ∃ g' c', bv = .slice (some ⟨g', 0, none⟩) (k + j) c' ∧ Own wr base g' c' (xs ++ lowL n j) ∧ Keep (· = g) w wr ∧ (g' = g ∨ w.heap.size ≤ g')) (fun _ _ iv _ => m - (intOf iv).toNat)
  case atStart => exact ⟨0, Nat.zero_le _, rfl, g, cap, rfl, by rw [show lowL n 0 = [] from rfl, List.append_nil]; exact HO.out, Keep.refl _ _, Or.inl rfl⟩
  case round =>
    obtain ⟨j, hj, rfl, g', c', rfl, ho, kp, lies⟩ := hrel
    have HO' := Lib.hid ho
    have KP := Lib.hid kp
    have LI := Lib.hid lies
    clear ho kp lies
    by_cases hlt : j < m
    · have i1 : decide ((j : Int) < (m : Int)) = true := by rw [decide_eq_true_eq]; omega
      have LX : Hid ((xs ++ lowL n j).length = k + j) := Lib.hid (by rw [List.length_append, lowL_len, HK.out])
      have NX : Hid ((xs ++ lowL n j) ++ [n / 2 ^ (8 * j) % 256] = xs ++ lowL n (j + 1)) := Lib.hid (by rw [lowL_succ, List.append_assoc])
      generalize xs ++ lowL n j = zs at *
      obtain ⟨x, hx⟩ : ∃ x, n / 2 ^ (8 * j) % 256 = x := ⟨_, rfl⟩
      have ux : U8 x := by unfold U8; omega
      have UX : Hid (∀ q, q < ([x] : List Int).length → U8 (([x] : List Int).getD q 0)) := Lib.hid (fun q hq => by
        obtain rfl : q = 0 := by simp at hq; omega
        exact ux)
      rw [hx] at NX
      go_wp2_with (at_builtin; go_loud (refine app_at _ rfl _ _ rfl base g' c' (k + j) zs LX.out rfl (HO'.out.alloc _) (wr.heap.size + 1) (some ⟨wr.heap.size, 0, none⟩) 1 1 [x] rfl rfl ?c1 (by decide) ?c2 ?c3 ?_))
      case c1 => exact RdB.lit wr #[.int .u8 x] 5 _ [x] rfl UX.out
      case c2 => omega
      case c3 => have := KP.out.size; simp; omega
      intro g2 c2 w2 o2 k2 l2
      have O2 : Hid (Own w2 base g2 c2 (xs ++ lowL n (j + 1))) := Lib.hid (by rw [← NX.out]; exact o2)
      have K2 : Hid (Keep (· = g) w w2) := Lib.hid ⟨k2.os.trans KP.out.os, k2.tape.trans KP.out.tape, k2.output.trans KP.out.output, by have a := KP.out.size; have b := k2.size; simp at b; omega, fun q hq hn => by
        have hq2 : q < wr.heap.size := by have := KP.out.size; omega
        rw [k2.block q (by first | (simp; omega) | omega) (fun e => by rcases LI.out with f | f; exact hn (by omega); omega), Below.heap_alloc _ _ _ hq2, KP.out.block q hq hn]⟩
      have N2 : Hid (g2 = g ∨ w.heap.size ≤ g2) := Lib.hid (by
        rcases l2 with e | e
        · rw [e]; exact LI.out
        · have := KP.out.size; exact Or.inr (by first | omega | (simp at e; omega)))
      clear o2 k2 l2 hx
      go_wp2
      go_roundw
      case rel => exact ⟨j + 1, by omega, by go_num, g2, c2, rfl, O2.out, K2.out, N2.out⟩
      case measure => simp [intOf]; omega
    · obtain rfl : j = m := by omega
      have i1 : decide ((j : Int) < (j : Int)) = false := by simp
      go_wp2
      go_ret
      exact ⟨g', c', rfl, HO'.out, KP.out, LI.out⟩
end Go.Proofs.Ytjiigbmfbmkhjaa
