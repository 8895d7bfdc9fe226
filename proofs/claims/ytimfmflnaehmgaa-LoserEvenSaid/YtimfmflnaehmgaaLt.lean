/-
  The least ones of a row of numbers, by a tree of matches: maths alone.
-/
import Derived.Test.YtimfmflnaehmgaaProg
namespace Go.Proofs.Ytimfmflnaehmgaa
set_option linter.unusedVariables false
set_option linter.unusedSimpArgs false

/-- Those of c that no other is less than. -/
def mn (key : Nat → Int) (c : List Nat) : List Nat := c.filter (fun i => c.all (fun j => decide (key i ≤ key j)))
/-- A match of two sides. -/
def jn (key : Nat → Int) : List Nat → List Nat → List Nat
  | [], r => r
  | l, [] => l
  | i :: l, j :: r => if key j < key i then j :: r else if key i < key j then i :: l else (i :: l) ++ (j :: r)
theorem exists_least (key : Nat → Int) : ∀ c : List Nat, c ≠ [] → ∃ m, (∃ i, i ∈ c ∧ key i = m) ∧ ∀ j, j ∈ c → m ≤ key j
  | [], h => absurd rfl h
  | [i], _ => ⟨key i, ⟨i, by simp, rfl⟩, fun j hj => by simp at hj; subst hj; exact Int.le_refl _⟩
  | i :: k :: r, _ => by
    obtain ⟨m, ⟨a, ha, ham⟩, hm⟩ := exists_least key (k :: r) (by simp)
    by_cases h : key i < m
    · refine ⟨key i, ⟨i, by simp, rfl⟩, fun j hj => ?_⟩
      rcases List.mem_cons.1 hj with e | e
      · subst e; exact Int.le_refl _
      · have := hm j e; omega
    · refine ⟨m, ⟨a, List.mem_cons_of_mem _ ha, ham⟩, fun j hj => ?_⟩
      rcases List.mem_cons.1 hj with e | e
      · subst e; omega
      · exact hm j e
theorem mn_of (key : Nat → Int) (c : List Nat) (m : Int) (h1 : ∃ i, i ∈ c ∧ key i = m) (h2 : ∀ j, j ∈ c → m ≤ key j) : mn key c = c.filter (fun i => decide (key i = m)) := by
  unfold mn
  apply List.filter_congr
  intro i hi
  obtain ⟨a, ha, ham⟩ := h1
  by_cases h : key i = m
  · have e1 : (c.all fun j => decide (key i ≤ key j)) = true := List.all_eq_true.2 (fun j hj => by have := h2 j hj; simp; omega)
    rw [e1]; simp [h]
  · have e1 : (c.all fun j => decide (key i ≤ key j)) = false := by
      rw [Bool.eq_false_iff]
      intro e
      have := List.all_eq_true.1 e a ha
      have := h2 i hi
      simp at *
      omega
    rw [e1]; simp [h]
theorem mn_nil (key : Nat → Int) : mn key [] = [] := rfl
theorem mn_mem {key : Nat → Int} {c : List Nat} {i : Nat} : i ∈ mn key c ↔ i ∈ c ∧ ∀ j, j ∈ c → key i ≤ key j := by
  unfold mn
  rw [List.mem_filter, List.all_eq_true]
  simp
theorem mn_ne (key : Nat → Int) (c : List Nat) (h : c ≠ []) : mn key c ≠ [] := by
  obtain ⟨m, ⟨a, ha, ham⟩, hm⟩ := exists_least key c h
  intro e
  have : a ∈ mn key c := mn_mem.2 ⟨ha, fun j hj => by have := hm j hj; omega⟩
  rw [e] at this
  cases this
theorem jn_lt {key : Nat → Int} {l r : List Nat} {a b : Int} (hl : l ≠ []) (hr : r ≠ []) (ha : ∀ i, i ∈ l → key i = a) (hb : ∀ i, i ∈ r → key i = b) :
    jn key l r = if b < a then r else if a < b then l else l ++ r := by
  match l, r, hl, hr with
  | i :: l, j :: r, _, _ =>
    show (if key j < key i then j :: r else if key i < key j then i :: l else (i :: l) ++ (j :: r)) = _
    rw [ha i (by simp), hb j (by simp)]
theorem jn_nil_left (key : Nat → Int) (r : List Nat) : jn key [] r = r := by cases r <;> rfl
theorem jn_nil_right (key : Nat → Int) (l : List Nat) : jn key l [] = l := by cases l <;> rfl
theorem mn_append (key : Nat → Int) (c1 c2 : List Nat) : mn key (c1 ++ c2) = jn key (mn key c1) (mn key c2) := by
  by_cases h1 : c1 = []
  · subst h1; rw [mn_nil, jn_nil_left, List.nil_append]
  by_cases h2 : c2 = []
  · subst h2; rw [mn_nil, jn_nil_right, List.append_nil]
  obtain ⟨a, ea, ha⟩ := exists_least key c1 h1
  obtain ⟨b, eb, hb⟩ := exists_least key c2 h2
  have A : ∀ i, i ∈ mn key c1 → key i = a := fun i hi => by
    rw [mn_of key c1 a ea ha, List.mem_filter] at hi; simpa using hi.2
  have B : ∀ i, i ∈ mn key c2 → key i = b := fun i hi => by
    rw [mn_of key c2 b eb hb, List.mem_filter] at hi; simpa using hi.2
  rw [jn_lt (mn_ne key c1 h1) (mn_ne key c2 h2) A B]
  obtain ⟨x, hx, hxa⟩ := ea
  obtain ⟨y, hy, hyb⟩ := eb
  have none1 : ∀ v, v < a → c1.filter (fun i => decide (key i = v)) = [] := fun v hv => by
    rw [List.filter_eq_nil_iff]; intro i hi; have := ha i hi; simp; omega
  have none2 : ∀ v, v < b → c2.filter (fun i => decide (key i = v)) = [] := fun v hv => by
    rw [List.filter_eq_nil_iff]; intro i hi; have := hb i hi; simp; omega
  split
  · rename_i h
    rw [mn_of key (c1 ++ c2) b ⟨y, by simp [hy], hyb⟩ (fun j hj => by
      rcases List.mem_append.1 hj with e | e
      · have := ha j e; omega
      · exact hb j e), List.filter_append, none1 b h, List.nil_append, mn_of key c2 b ⟨y, hy, hyb⟩ hb]
  · rename_i h
    split
    · rename_i h'
      rw [mn_of key (c1 ++ c2) a ⟨x, by simp [hx], hxa⟩ (fun j hj => by
        rcases List.mem_append.1 hj with e | e
        · exact ha j e
        · have := hb j e; omega), List.filter_append, none2 a h', List.append_nil, mn_of key c1 a ⟨x, hx, hxa⟩ ha]
    · rename_i h'
      obtain rfl : a = b := by omega
      rw [mn_of key (c1 ++ c2) a ⟨x, by simp [hx], hxa⟩ (fun j hj => by
        rcases List.mem_append.1 hj with e | e
        · exact ha j e
        · exact hb j e), List.filter_append, mn_of key c1 a ⟨x, hx, hxa⟩ ha, mn_of key c2 a ⟨y, hy, hyb⟩ hb]
theorem mn_congr {key key' : Nat → Int} {c : List Nat} (h : ∀ i, i ∈ c → key i = key' i) : mn key c = mn key' c := by
  unfold mn
  apply List.filter_congr
  intro i hi
  apply Bool.eq_iff_iff.2
  rw [List.all_eq_true, List.all_eq_true]
  constructor
  · intro q j hj; have := q j hj; rw [h i hi, h j hj] at this; exact this
  · intro q j hj; have := q j hj; rw [h i hi, h j hj]; exact this
/-- The first source below node m, of 2^d ones, and how many there are. -/
def spanLo (d m : Nat) : Nat := m * 2 ^ (d - m.log2) - 2 ^ d
def spanLen (d m : Nat) : Nat := 2 ^ (d - m.log2)
def below (live : Nat → Bool) (d m : Nat) : List Nat := (List.range' (spanLo d m) (spanLen d m)).filter live
theorem log2_two (m : Nat) (h : 1 ≤ m) : (2 * m).log2 = m.log2 + 1 := by
  rw [Nat.log2_two_mul (by omega)]
theorem log2_two_one (m : Nat) (h : 1 ≤ m) : (2 * m + 1).log2 = m.log2 + 1 := by
  rw [Nat.log2_eq_iff (by omega)]
  have h1 := Nat.log2_self_le (n := m) (by omega)
  have h2 := Nat.lt_log2_self (n := m)
  rw [Nat.pow_succ] at *
  rw [Nat.pow_succ, Nat.pow_succ]
  omega
theorem log2_lt (d m : Nat) (h : 1 ≤ m) (hm : m < 2 ^ d) : m.log2 < d := (Nat.log2_lt (by omega)).2 hm
theorem below_node (live : Nat → Bool) (d m : Nat) (h : 1 ≤ m) (hm : m < 2 ^ d) : below live d m = below live d (2 * m) ++ below live d (2 * m + 1) := by
  have hl := log2_lt d m h hm
  obtain ⟨e, he⟩ : ∃ e, d - m.log2 = e + 1 := ⟨d - m.log2 - 1, by omega⟩
  have e1 : d - (m.log2 + 1) = e := by omega
  have hp : 2 ^ m.log2 ≤ m := Nat.log2_self_le (by omega)
  have hd : 2 ^ d ≤ m * (2 ^ e * 2) := by
    rw [← Nat.pow_succ, show e.succ = d - m.log2 from he.symm]
    calc 2 ^ d = 2 ^ (m.log2 + (d - m.log2)) := by congr 1; omega
      _ = 2 ^ m.log2 * 2 ^ (d - m.log2) := Nat.pow_add _ _ _
      _ ≤ m * 2 ^ (d - m.log2) := Nat.mul_le_mul_right _ hp
  unfold below spanLo spanLen
  rw [log2_two m h, log2_two_one m h, he, e1, Nat.pow_succ, ← List.filter_append]
  congr 1
  have a1 : 2 * m * 2 ^ e = m * (2 ^ e * 2) := by rw [Nat.mul_comm (2 ^ e) 2, ← Nat.mul_assoc, Nat.mul_comm m 2]
  have a2 : (2 * m + 1) * 2 ^ e = m * (2 ^ e * 2) + 2 ^ e := by rw [Nat.add_mul, Nat.one_mul, a1]
  rw [a1, a2, Nat.sub_add_comm hd, show 2 ^ e * 2 = 2 ^ e + 2 ^ e by omega]
  rw [List.range'_append_1]
theorem below_leaf (live : Nat → Bool) (d i : Nat) (h : i < 2 ^ d) : below live d (2 ^ d + i) = [i].filter live := by
  have e : (2 ^ d + i).log2 = d := by
    rw [Nat.log2_eq_iff (by have := Nat.two_pow_pos d; omega), Nat.pow_succ]; omega
  unfold below spanLo spanLen
  rw [e, Nat.sub_self, Nat.pow_zero, Nat.mul_one, Nat.add_sub_cancel_left]
  rfl
theorem below_root (live : Nat → Bool) (d : Nat) : below live d 1 = (List.range (2 ^ d)).filter live := by
  have e : (1 : Nat).log2 = 0 := by decide
  unfold below spanLo spanLen
  rw [e, Nat.sub_zero, Nat.one_mul, Nat.sub_self, List.range_eq_range']
/-- Whose path node m lies on. -/
theorem below_on {live : Nat → Bool} {d m i : Nat} (h1 : 1 ≤ m) (h2 : m < 2 * 2 ^ d) (hi : i ∈ below live d m) : (2 ^ d + i) / 2 ^ (d - m.log2) = m := by
  unfold below at hi
  rw [List.mem_filter, List.mem_range'_1] at hi
  obtain ⟨⟨a, b⟩, _⟩ := hi
  unfold spanLo at a b
  unfold spanLen at b
  have hl : m.log2 ≤ d := by
    have : m.log2 < d + 1 := (Nat.log2_lt (by omega)).2 (by rw [Nat.pow_succ]; omega)
    omega
  have hp : 2 ^ m.log2 ≤ m := Nat.log2_self_le (by omega)
  have hd : 2 ^ d ≤ m * 2 ^ (d - m.log2) := by
    calc 2 ^ d = 2 ^ (m.log2 + (d - m.log2)) := by congr 1; omega
      _ = 2 ^ m.log2 * 2 ^ (d - m.log2) := Nat.pow_add _ _ _
      _ ≤ m * 2 ^ (d - m.log2) := Nat.mul_le_mul_right _ hp
  rw [Nat.div_eq_iff (Nat.two_pow_pos _)]
  generalize 2 ^ (d - m.log2) = p at *
  generalize 2 ^ d = q at *
  generalize hmp : m * p = r at *
  omega
theorem below_congr {live live' : Nat → Bool} {d m : Nat} (h : ∀ i, (2 ^ d + i) / 2 ^ (d - m.log2) = m → live i = live' i) (h1 : 1 ≤ m) (h2 : m < 2 * 2 ^ d) : below live d m = below live' d m := by
  have q : ∀ i, i ∈ below (fun _ => true) d m → live i = live' i := fun i hi => h i (below_on h1 h2 hi)
  have e : ∀ l, below l d m = (below (fun _ => true) d m).filter l := fun l => by
    unfold below
    rw [List.filter_filter]
    congr 1
    funext i
    simp
  rw [e live, e live']
  exact List.filter_congr q
/-- Node m is as it should be. -/
def Rt (key : Nat → Int) (live : Nat → Bool) (d : Nat) (N : List (List Nat)) (m : Nat) : Prop := N.getD m [] = mn key (below live d m)
theorem Rt.join {key : Nat → Int} {live : Nat → Bool} {d m : Nat} {N : List (List Nat)} (h : 1 ≤ m) (hm : m < 2 ^ d) (hN : N.length = 2 * 2 ^ d) (h1 : Rt key live d N (2 * m)) (h2 : Rt key live d N (2 * m + 1)) :
    Rt key live d (N.set m (jn key (N.getD (2 * m) []) (N.getD (2 * m + 1) []))) m := by
  unfold Rt at *
  rw [h1, h2, ← mn_append, ← below_node live d m h hm, List.getD_eq_getElem?_getD, List.getElem?_set_self (by omega)]
  rfl
theorem Rt.other {key : Nat → Int} {live : Nat → Bool} {d m k : Nat} {N : List (List Nat)} {l : List Nat} (h : Rt key live d N m) (hne : m ≠ k) : Rt key live d (N.set k l) m := by
  unfold Rt at *
  rw [List.getD_eq_getElem?_getD, List.getElem?_set_ne (by omega), ← List.getD_eq_getElem?_getD]
  exact h
theorem Rt.leaf {key : Nat → Int} {live : Nat → Bool} {d i : Nat} {N : List (List Nat)} (hi : i < 2 ^ d) (hN : N.length = 2 * 2 ^ d) : Rt key live d (N.set (2 ^ d + i) (if live i then [i] else [])) (2 ^ d + i) := by
  unfold Rt
  rw [below_leaf live d i hi, List.getD_eq_getElem?_getD, List.getElem?_set_self (by omega)]
  by_cases h : live i = true
  · simp [h, mn]
  · simp [h, mn]
/-- What changes at source i alone leaves a node that isn't on its path. -/
theorem Rt.off {key key' : Nat → Int} {live live' : Nat → Bool} {d m i : Nat} {N : List (List Nat)} (h : Rt key live d N m) (h1 : 1 ≤ m) (h2 : m < 2 * 2 ^ d) (hk : ∀ j, j ≠ i → key j = key' j) (hl : ∀ j, j ≠ i → live j = live' j) (hoff : ∀ j, (2 ^ d + i) / 2 ^ j ≠ m) : Rt key' live' d N m := by
  unfold Rt at *
  rw [h, below_congr (live' := live') (fun j hj => hl j (fun e => hoff _ (e ▸ hj))) h1 h2]
  exact mn_congr (fun j hj => hk j (fun e => hoff _ (e ▸ below_on h1 h2 hj)))
theorem Rt.alike {key : Nat → Int} {live : Nat → Bool} {d m : Nat} {N : List (List Nat)} (h : Rt key live d N m) : ∀ i j, i ∈ N.getD m [] → j ∈ N.getD m [] → key i = key j := by
  intro i j hi hj
  unfold Rt at h
  rw [h] at hi hj
  have a := (mn_mem.1 hi).2 j (mn_mem.1 hj).1
  have b := (mn_mem.1 hj).2 i (mn_mem.1 hi).1
  omega
/-- The first one that no other is less than. -/
def Best (key : Nat → Int) (live : Nat → Bool) (k i : Nat) : Prop := i < k ∧ live i = true ∧ (∀ j, j < k → live j = true → key i ≤ key j) ∧ ∀ j, j < i → live j = true → key i < key j
theorem head_least (key : Nat → Int) : ∀ (c : List Nat) (i : Nat) (r : List Nat), mn key c = i :: r → c.Pairwise (· < ·) → i ∈ c ∧ (∀ j, j ∈ c → key i ≤ key j) ∧ ∀ j, j ∈ c → j < i → key i < key j := by
  intro c i r h hs
  have hi : i ∈ mn key c := by rw [h]; simp
  obtain ⟨h1, h2⟩ := mn_mem.1 hi
  refine ⟨h1, h2, fun j hj hji => ?_⟩
  have q := h2 j hj
  rcases Int.lt_or_eq_of_le q with e | e
  · exact e
  · exfalso
    have hjm : j ∈ mn key c := mn_mem.2 ⟨hj, fun k hk => by rw [← e]; exact h2 k hk⟩
    have hp : (mn key c).Pairwise (· < ·) := hs.filter _
    rw [h] at hp hjm
    rcases List.mem_cons.1 hjm with e' | e'
    · omega
    · have := (List.pairwise_cons.1 hp).1 j e'
      omega
theorem Rt.best {key : Nat → Int} {live : Nat → Bool} {d k : Nat} {N : List (List Nat)} (h : Rt key live d N 1) (hk : ∀ i, live i = true → i < k) (hkd : k ≤ 2 ^ d) (hl : ∃ i, live i = true) :
    ∃ i r, N.getD 1 [] = i :: r ∧ Best key live k i := by
  unfold Rt at h
  rw [below_root] at h
  have hmem : ∀ i, i ∈ (List.range (2 ^ d)).filter live ↔ live i = true := fun i => by
    rw [List.mem_filter, List.mem_range]
    exact ⟨fun e => e.2, fun e => ⟨by have := hk i e; omega, e⟩⟩
  obtain ⟨i0, hi0⟩ := hl
  have hne := mn_ne key ((List.range (2 ^ d)).filter live) (fun e => by have := (hmem i0).2 hi0; rw [e] at this; cases this)
  match hq : mn key ((List.range (2 ^ d)).filter live), hne with
  | i :: r, _ =>
    obtain ⟨a, b, c⟩ := head_least key _ i r hq (List.pairwise_lt_range.filter _)
    have hli := (hmem i).1 a
    exact ⟨i, r, by rw [h, hq], hk i hli, hli, fun j hj hlj => b j ((hmem j).2 hlj), fun j hj hlj => c j ((hmem j).2 hlj) hj⟩
theorem Best.one {key : Nat → Int} {live : Nat → Bool} {k i j : Nat} (h : Best key live k i) (h' : Best key live k j) : i = j := by
  obtain ⟨a1, a2, a3, a4⟩ := h
  obtain ⟨b1, b2, b3, b4⟩ := h'
  rcases Nat.lt_trichotomy i j with e | e | e
  · have := b4 i e a2; have := a3 j b1 b2; omega
  · exact e
  · have := a4 j e b2; have := b3 i a1 a2; omega
/-- The path of a source, upwards. -/
theorem path_step {d n m : Nat} {key : Nat → Int} {live : Nat → Bool} {N : List (List Nat)} (hn : 1 ≤ n) (hnd : n < 2 ^ d) (hN : N.length = 2 * 2 ^ d)
    (h : ∀ m, 1 ≤ m → m < 2 * 2 ^ d → (∀ j, n / 2 ^ j ≠ m) → Rt key live d N m) :
    ∀ m, 1 ≤ m → m < 2 * 2 ^ d → (∀ j, n / 2 / 2 ^ j ≠ m) → Rt key live d (N.set n (jn key (N.getD (2 * n) []) (N.getD (2 * n + 1) []))) m := by
  have hle : ∀ j, n / 2 ^ j ≤ n := fun j => Nat.div_le_self _ _
  have r1 := h (2 * n) (by omega) (by omega) (fun j e => by have := hle j; omega)
  have r2 := h (2 * n + 1) (by omega) (by omega) (fun j e => by have := hle j; omega)
  intro m h1 h2 hj
  by_cases e : m = n
  · subst e; exact Rt.join h1 hnd hN r1 r2
  · refine Rt.other (h m h1 h2 (fun j hm => ?_)) e
    cases j with
    | zero => rw [Nat.pow_zero, Nat.div_one] at hm; omega
    | succ j => exact hj j (by rw [Nat.div_div_eq_div_mul, ← Nat.pow_succ']; exact hm)
end Go.Proofs.Ytimfmflnaehmgaa
