/-
  Numbers of 128 bits as two words: plain arithmetic. No program in this text.
  Rows of ints of the call's own: one more, sorted (at most twelve), searched; slices.Clone at ints and at files.
-/
import Derived.Test.YtilmicekpclmbaaZv
import Derived.Test.YtilmicekpclmbaaZj
import Derived.Test.YtilmicekpclmbaaWLen
import Derived.Deep.DeepCutAuto
namespace Go.Proofs.Ytilmicekpclmbaa
set_option linter.unusedVariables false
set_option linter.unusedSimpArgs false

/-- The high word of a number, round at 2^128. -/
def hiW (v : Int) : Int := (v / 18446744073709551616 + 9223372036854775808) % 18446744073709551616 - 9223372036854775808
/-- The low word of a number. -/
def loW (v : Int) : Int := v % 18446744073709551616
/-- An int. -/
def I64 (n : Int) : Prop := -9223372036854775808 ≤ n ∧ n ≤ 9223372036854775807
/-- A number of 128 bits. -/
def W128 (v : Int) : Prop := -170141183460469231731687303715884105728 ≤ v ∧ v < 170141183460469231731687303715884105728

theorem hiW_of {v : Int} (h : W128 v) : hiW v = v / 18446744073709551616 := by unfold W128 at h; unfold hiW; omega
theorem hiW_bd (v : Int) : -9223372036854775808 ≤ hiW v ∧ hiW v ≤ 9223372036854775807 := by unfold hiW; omega
theorem loW_bd (v : Int) : 0 ≤ loW v ∧ loW v ≤ 18446744073709551615 := by unfold loW; omega
theorem wide_eq {v : Int} (h : W128 v) : v = hiW v * 18446744073709551616 + loW v := by rw [hiW_of h]; unfold loW; omega
theorem wide_inj {v u : Int} (hv : W128 v) (hu : W128 u) (h1 : hiW v = hiW u) (h2 : loW v = loW u) : v = u := by
  rw [wide_eq hv, wide_eq hu, h1, h2]
theorem prod_bd {a b : Int} (ha : I64 a) (hb : I64 b) : -85070591730234615856620279821087277056 ≤ a * b ∧ a * b ≤ 85070591730234615865843651857942052864 := by
  obtain ⟨a1, a2⟩ := ha; obtain ⟨b1, b2⟩ := hb
  have key : ∀ x y : Int, 0 ≤ x → 0 ≤ y → x ≤ 9223372036854775808 → y ≤ 9223372036854775808 → 0 ≤ x * y ∧ x * y ≤ 85070591730234615865843651857942052864 := by
    intro x y hx hy hx' hy'
    exact ⟨Int.mul_nonneg hx hy, Int.mul_le_mul hx' hy' hy (by omega)⟩
  have key' : ∀ x y : Int, 0 ≤ x → 0 ≤ y → x ≤ 9223372036854775808 → y ≤ 9223372036854775807 → x * y ≤ 85070591730234615856620279821087277056 := by
    intro x y hx hy hx' hy'
    exact Int.mul_le_mul hx' hy' hy (by omega)
  rcases Int.le_total 0 a with pa | pa <;> rcases Int.le_total 0 b with pb | pb
  · have := key a b pa pb (by omega) (by omega); omega
  · have h1 := key a (-b) pa (by omega) (by omega) (by omega)
    have h2 := key' (-b) a (by omega) pa (by omega) (by omega)
    rw [Int.mul_comm (-b), Int.mul_neg] at h2; rw [Int.mul_neg] at h1; omega
  · have h1 := key (-a) b (by omega) pb (by omega) (by omega)
    have h2 := key' (-a) b (by omega) pb (by omega) (by omega)
    rw [Int.neg_mul] at h1 h2; omega
  · have := key (-a) (-b) (by omega) (by omega) (by omega) (by omega)
    rw [Int.neg_mul_neg] at this; omega
theorem prod_W128 {a b : Int} (ha : I64 a) (hb : I64 b) : W128 (a * b) := by have := prod_bd ha hb; unfold W128; omega
theorem I64.W128 {a : Int} (h : I64 a) : W128 a := by unfold I64 at h; unfold Go.Proofs.Ytilmicekpclmbaa.W128; omega

/-- -1, 0, 1. -/
def cmpI (x y : Int) : Int := if x < y then -1 else if x = y then 0 else 1

/-- The nearest whole number to x by d, of two as near the even one (d above 0). -/
def near (x d : Int) : Int := if 2 * (x % d) < d then x / d else if d < 2 * (x % d) then x / d + 1 else if x / d % 2 = 0 then x / d else x / d + 1
end Go.Proofs.Ytilmicekpclmbaa
namespace Go.Proofs.Ytilmicekpclmbaa
set_option linter.unusedVariables false
set_option linter.unusedSimpArgs false
set_option maxRecDepth 100000
open Go.RowKit

def iAt (l : List Int) (i : Nat) : Int := l.getD i 0
def keyI (x : Int) : Int := x
theorem iAt_app_right (P S : List Int) (j : Nat) : iAt (P ++ S) (P.length + j) = iAt S j := by
  unfold iAt
  rw [List.getD_eq_getElem?_getD, List.getElem?_append_right (by omega), Nat.add_sub_cancel_left, List.getD_eq_getElem?_getD]
theorem iAt_mid (P S : List Int) (x : Int) (j : Nat) (h : P.length = j) : iAt (P ++ x :: S) j = x := by
  subst h
  exact iAt_app_right P (x :: S) 0
/-- What holds at the inner loop's head: x has come to place j, ahead of S; P and S are the sorted front. -/
structure MidI (L R : List Int) (x : Int) (j : Nat) (d : List Int) : Prop where
  mk' ::
  ex : ∃ P S, d = P ++ x :: (S ++ R) ∧ P.length = j ∧ P ++ S = L ∧ ∀ z, z ∈ S → x < z
theorem MidI.start (L R : List Int) (x : Int) : MidI L R x L.length (L ++ x :: R) := ⟨L, [], rfl, rfl, List.append_nil _, fun z hz => by cases hz⟩
theorem MidI.at {L R : List Int} {x : Int} {j : Nat} {d : List Int} (h : MidI L R x j d) : iAt d j = x := by
  obtain ⟨P, S, rfl, hP, _, _⟩ := h
  exact iAt_mid P _ x j hP
theorem MidI.down {L R : List Int} {x : Int} {j : Nat} {d : List Int} (h : MidI L R x (j + 1) d) (hlt : x < iAt d j) : MidI L R x j ((d.set (j + 1) (iAt d j)).set j x) := by
  obtain ⟨P, S, rfl, hP, hL, hS⟩ := h
  rcases List.eq_nil_or_concat P with e | ⟨P', p, e⟩
  · rw [e] at hP; cases hP
  · rw [List.concat_eq_append] at e
    subst e
    rw [List.length_append] at hP
    have hP : P'.length = j := by simpa using hP
    have hd : P' ++ [p] ++ x :: (S ++ R) = P' ++ p :: x :: (S ++ R) := by simp
    have hp : iAt (P' ++ [p] ++ x :: (S ++ R)) j = p := by rw [hd]; exact iAt_mid P' _ p j hP
    rw [hp] at hlt ⊢
    refine ⟨P', p :: S, ?_, hP, by rw [← hL]; simp, fun z hz => ?_⟩
    · rw [hd, ← hP, List.set_append_right _ _ (by omega), List.set_append_right _ _ (by omega)]
      have e1 : P'.length + 1 - P'.length = 1 := by omega
      rw [e1, Nat.sub_self]
      rfl
    · rcases List.mem_cons.1 hz with e | e
      · rw [e]; exact hlt
      · exact hS z e
theorem MidI.stop {L R : List Int} {x : Int} {j : Nat} {d : List Int} (h : MidI L R x j d) (hr : Rise keyI L) (hs : j = 0 ∨ ∃ i, j = i + 1 ∧ ¬ x < iAt d i) : d = ins keyI x L ++ R := by
  obtain ⟨P, S, rfl, hP, hL, hS⟩ := h
  have key : ∀ z, z ∈ P → z ≤ x := by
    rcases hs with e | ⟨i, e, hn⟩
    · rw [e] at hP
      rw [List.eq_nil_of_length_eq_zero hP]
      exact fun z hz => by cases hz
    · rcases List.eq_nil_or_concat P with e' | ⟨P', p, e'⟩
      · rw [e', e] at hP; cases hP
      · rw [List.concat_eq_append] at e'
        subst e'
        rw [List.length_append, e] at hP
        have hP : P'.length = i := by simpa using hP
        have hp : iAt (P' ++ [p] ++ x :: (S ++ R)) i = p := by
          have hd : P' ++ [p] ++ x :: (S ++ R) = P' ++ p :: x :: (S ++ R) := by simp
          rw [hd]; exact iAt_mid P' _ p i hP
        rw [hp] at hn
        rw [← hL] at hr
        exact rise_last keyI hr (by show p ≤ x; omega)
  rw [← hL, ins_at keyI x S hS P key]
  simp
theorem MidI.len {L R : List Int} {x : Int} {j : Nat} {d : List Int} (h : MidI L R x j d) : j ≤ L.length ∧ d.length = L.length + 1 + R.length := by
  obtain ⟨P, S, rfl, hP, hL, hS⟩ := h
  rw [← hL]
  simp
  omega
theorem isortI_take {l : List Int} {i : Nat} (hi : i < l.length) : isort keyI (l.take (i + 1)) = ins keyI (iAt l i) (isort keyI (l.take i)) := by
  rw [← isort_snoc, List.take_succ_eq_append_getElem hi]
  unfold iAt
  rw [List.getD_eq_getElem?_getD, List.getElem?_eq_getElem hi]
  rfl
theorem dropI_at {l : List Int} {i : Nat} (hi : i < l.length) : l.drop i = iAt l i :: l.drop (i + 1) := by
  unfold iAt
  rw [List.getD_eq_getElem?_getD, List.getElem?_eq_getElem hi]; exact List.drop_eq_getElem_cons hi
def ivs (l : List Int) : List Value := l.map (Value.int .i64)
theorem ivs_len (l : List Int) : (ivs l).length = l.length := by unfold ivs; rw [List.length_map]
theorem ivs_at (l : List Int) (k : Nat) (h : k < l.length) : (ivs l)[k]? = some (.int .i64 (iAt l k)) := by
  unfold ivs iAt; rw [List.getElem?_map, List.getElem?_eq_getElem h, List.getD_eq_getElem?_getD, List.getElem?_eq_getElem h]; rfl
theorem ivs_one (l : List Int) (u : Value) (h : u ∈ ivs l) : u.oneCell' = true := by
  unfold ivs at h
  obtain ⟨x, _, rfl⟩ := List.mem_map.1 h
  rfl
theorem iAt_set (l : List Int) (i j : Nat) (x : Int) (hi : i < l.length) : iAt (l.set i x) j = if j = i then x else iAt l j := by
  unfold iAt
  rw [List.getD_eq_getElem?_getD, List.getElem?_set]
  split
  · rename_i h
    subst h
    rw [if_pos rfl]; rfl
  · rename_i h
    rw [if_neg (fun e => h e.symm), List.getD_eq_getElem?_getD]
theorem iAt_snoc (l : List Int) (x : Int) (i : Nat) : iAt (l ++ [x]) i = if i < l.length then iAt l i else if i = l.length then x else 0 := by
  unfold iAt
  rw [List.getD_eq_getElem?_getD, List.getElem?_append]
  split
  · rw [List.getD_eq_getElem?_getD]
  · rename_i h
    split
    · rename_i h2; rw [h2, Nat.sub_self]; rfl
    · rw [List.getElem?_eq_none (by show 1 ≤ _; omega)]; rfl
/-- A slice of ints in a block of the call's own, from its head on (or nil). -/
def OwnI (w : World) (base : Nat) (A : Option Addr) (n cap : Nat) (l : List Int) : Prop :=
  RowN w base 3 1 A n cap (ivs l) ∧ l.length = n ∧ ∀ i, i < n → I64x (iAt l i)
theorem OwnI.nil (w : World) (base : Nat) : OwnI w base none 0 0 [] := ⟨RowN.nil _ _ _ _, rfl, fun i hi => absurd hi (by simp)⟩
theorem OwnI.same {w w' : World} {base : Nat} {A : Option Addr} {n cap : Nat} {l : List Int} (h : OwnI w base A n cap l) (k : ∀ a, A = some a → w'.heap[a.block]? = w.heap[a.block]?) : OwnI w' base A n cap l := ⟨h.1.same k, h.2⟩
theorem OwnI.below {w w' : World} {base : Nat} {A : Option Addr} {n cap : Nat} {l : List Int} (h : OwnI w base A n cap l) (b : Below w.heap.size w w') : OwnI w' base A n cap l := ⟨h.1.below b, h.2⟩
theorem OwnI.drew {w : World} {base : Nat} {A : Option Addr} {n cap : Nat} {l : List Int} (h : OwnI w base A n cap l) : OwnI w.drew base A n cap l := h.below (Below.refl _ _).drew
theorem OwnI.lt {w : World} {base : Nat} {A : Option Addr} {n cap : Nat} {l : List Int} (h : OwnI w base A n cap l) (a : Addr) (ha : A = some a) : base ≤ a.block ∧ a.block < w.heap.size := h.1.lt a ha
theorem OwnI.cell {w : World} {base g n cap : Nat} {l : List Int} (h : OwnI w base (some ⟨g, 0, none⟩) n cap l) (i : Nat) (hi : i < n) : w.cell? ⟨g, i, none⟩ = some (.int .i64 (iAt l i)) := by
  obtain ⟨g', e, h1⟩ := h.1.at (by omega)
  injection e with e
  injection e with e
  subst e
  rw [(h1 i).2 (by omega)]
  exact ivs_at l i (by rw [h.2.1]; exact hi)
theorem OwnI.frozen {w : World} {base g n cap : Nat} {l : List Int} (h : OwnI w base (some ⟨g, 0, none⟩) n cap l) (hn : 0 < n) (k : Nat) : w.frozen? ⟨g, k, none⟩ = false := by
  obtain ⟨g', e, h1⟩ := h.1.at hn
  injection e with e
  injection e with e
  subst e
  exact (h1 k).1
theorem OwnI.set {w : World} {base g n cap : Nat} {l : List Int} (h : OwnI w base (some ⟨g, 0, none⟩) n cap l) (i : Nat) (hi : i < n) (x : Int) (hx : I64x x) : OwnI (w.setCell ⟨g, i, none⟩ (.int .i64 x)) base (some ⟨g, 0, none⟩) n cap (l.set i x) := by
  have hl := h.2.1
  refine ⟨?_, by rw [List.length_set]; exact hl, fun j hj => ?_⟩
  · have e : ivs (l.set i x) = (ivs l).set i (.int .i64 x) := by unfold ivs; rw [List.map_set]
    rw [e]; exact h.1.set _ _
  · rw [iAt_set l i j x (by omega)]
    split
    · exact hx
    · exact h.2.2 j hj
theorem iAt_mem {l : List Int} {i : Nat} (hi : i < l.length) : iAt l i ∈ l := by
  unfold iAt
  rw [List.getD_eq_getElem?_getD, List.getElem?_eq_getElem hi]
  exact List.getElem_mem hi
theorem mem_iAt {l : List Int} {z : Int} (h : z ∈ l) : ∃ i, i < l.length ∧ iAt l i = z := by
  obtain ⟨i, hi, e⟩ := List.mem_iff_getElem.1 h
  refine ⟨i, hi, ?_⟩
  unfold iAt
  rw [List.getD_eq_getElem?_getD, List.getElem?_eq_getElem hi]
  exact e
theorem rise_iAt {l : List Int} (h : Rise keyI l) {a b : Nat} (hab : a ≤ b) (hb : b < l.length) : iAt l a ≤ iAt l b := by
  rcases Nat.lt_or_ge a b with e | e
  · have := List.pairwise_iff_getElem.1 h a b (by omega) hb e
    unfold iAt
    rw [List.getD_eq_getElem?_getD, List.getElem?_eq_getElem (by omega), List.getD_eq_getElem?_getD, List.getElem?_eq_getElem hb]
    exact this
  · obtain rfl : a = b := by omega
    exact Int.le_refl _
/-- A slice of ints that reads as a list, in blocks below N. -/
def IR (w : World) (N : Nat) (A : Option Addr) (l : List Int) : Prop := ∀ i, i < l.length → ∃ b o, A = some ⟨b, o, none⟩ ∧ b < N ∧ w.cell? ⟨b, o + i, none⟩ = some (.int .i64 (iAt l i)) ∧ I64x (iAt l i)
theorem IR.below {w w' : World} {N : Nat} {A : Option Addr} {l : List Int} (h : IR w N A l) (hb : Below N w w') : IR w' N A l := fun i hi => by
  obtain ⟨b, o, h1, h2, h3, h4⟩ := h i hi
  exact ⟨b, o, h1, h2, by rw [hb.cell (p := ⟨b, o + i, none⟩) h2]; exact h3, h4⟩
theorem IR.more {w : World} {N N' : Nat} {A : Option Addr} {l : List Int} (h : IR w N A l) (hb : N ≤ N') : IR w N' A l := fun i hi => by
  obtain ⟨b, o, h1, h2, h3⟩ := h i hi
  exact ⟨b, o, h1, by omega, h3⟩
theorem IR.src {w : World} {N : Nat} {ad : Addr} {l : List Int} (h : IR w N (some ad) l) (j : Nat) (u : Value) (hu : (ivs l)[j]? = some u) : w.cell? (ad.add j) = some u := by
  have hj : j < l.length := by
    rcases Nat.lt_or_ge j l.length with e | e
    · exact e
    · rw [List.getElem?_eq_none (by rw [ivs_len]; exact e)] at hu; cases hu
  obtain ⟨b', o', e, _, hc, _⟩ := h j hj
  injection e with e
  subst e
  rw [Addr.add_mid, hc, ← hu, ivs_at l j hj]
theorem FlR.src {w : World} {N : Nat} {ad : Addr} {l : List Fl} (h : FlR w N (some ad) l) (j : Nat) (u : Value) (hu : (flvs l)[j]? = some u) : w.cell? (ad.add j) = some u := by
  have hj : j < l.length * 4 := by
    rcases Nat.lt_or_ge j (l.length * 4) with e | e
    · exact e
    · rw [List.getElem?_eq_none (by rw [flvs_len]; exact e)] at hu; cases hu
  obtain ⟨i, r, hr, rfl⟩ : ∃ i r, r < 4 ∧ j = i * 4 + r := ⟨j / 4, j % 4, by omega, by omega⟩
  rw [flvs_at l i r (by omega) hr] at hu
  obtain ⟨b', o', e, _, h0, h1, h2, h3, _⟩ := h i (by omega)
  injection e with e
  subst e
  rw [Addr.add_mid, ← hu]
  have : r = 0 ∨ r = 1 ∨ r = 2 ∨ r = 3 := by omega
  rcases this with rfl | rfl | rfl | rfl
  · exact h0
  · exact h1
  · exact h2
  · exact h3
theorem flvs_one (l : List Fl) (u : Value) (h : u ∈ flvs l) : u.oneCell' = true := by
  unfold flvs at h
  obtain ⟨f, _, hf⟩ := List.mem_flatMap.1 h
  exact flv_one f u hf
theorem cloneF_any (l : List Fl) (N : Nat) (A : Option Addr) (n cap : Nat) (w : World) (hl : l.length = n) (hn : n ≤ 1000) (h : FlR w N A l) (hN : N ≤ w.heap.size) :
    Calls Try.prog 35 #[.slice A n cap] w fun e w' => ∃ A' c', e = .returned (.slice A' n c') ∧ OwnF w' w.heap.size A' n c' l ∧ Below w.heap.size w w' := by
  cases A with
  | none =>
    have h0 : n = 0 := by
      rcases Nat.eq_zero_or_pos n with e | e
      · exact e
      · obtain ⟨b, o, e, _⟩ := h 0 (by omega); cases e
    subst h0
    have : l = [] := List.eq_nil_of_length_eq_zero hl
    subst this
    have en := eql_nil 35 40 none 0 cap Try.underlying35
    clear h hl
    go_enter Try.func35, Try.ntmps35
    go_wp2
    go_ret
    exact ⟨none, 0, rfl, OwnF.nil _ _, Below.refl _ _⟩
  | some ad =>
    have H := Lib.hid h; have HL := Lib.hid hl
    have OK : Hid (∀ i, i < l.length → (flAt l i).Ok) := Lib.hid (fun i hi => by obtain ⟨_, _, _, _, _, _, _, _, q⟩ := h i hi; exact q)
    have en := eql_nil 35 40 (some ad) n cap Try.underlying35
    have H2 := Lib.hid (h.below (((Below.refl _ w).alloc (Nat.le_refl _) (.cells #[] 40)).mono hN))
    clear h hl
    go_enter Try.func35, Try.ntmps35
    go_wp2_with (at_builtin; go_loud (refine app_rowsN _ rfl _ _ 35 40 rfl Try.underlying35 _ 4 32 Try.info_file (by rfl) (by decide) (by decide) w.heap.size w.heap.size 0 0 [] rfl (RowN.empty w _ _ _ (Nat.le_refl _)) ad n cap (flvs l) (by rw [flvs_len, HL.out]) rfl H2.out.src (flvs_one l) (by omega) (by simp) ?_))
    intro g' c'' w' r1 r2
    have r1 : RowN w' w.heap.size 40 4 (some ⟨g', 0, none⟩) n c'' (flvs l) := r1
    have R1 := Lib.hid r1
    have B1 : Hid (Below w.heap.size w w') := Lib.hid (Below.grown (Below.alloc (Below.refl _ w) (Nat.le_refl _) (.cells #[] 40)) r2 (by simp) (fun k hk => by injection hk with hk; omega))
    clear r1 r2
    go_wp2
    go_ret
    exact ⟨some ⟨g', 0, none⟩, c'', rfl, ⟨R1.out, HL.out, OK.out⟩, B1.out⟩
/-- One int more. -/
theorem app_i (w : World) {ops : Array Oper} {rs : List Oper} {o : Oper} {a : Act} {Q : Exit → Act → World → Prop} (hgd : o.guard = none)
    (s x : Operand) (ho : o.op = .call { callee := .builtin .append, args := #[s, x], argTypes := #[43, 43] })
    (base n cap : Nat) (A : Option Addr) (l : List Int) (hs : a.eval s = .slice A n cap) (hown : OwnI w base A n cap l)
    (b' : Nat) (c : Nat) (v : Int) (hx : a.eval x = .slice (some ⟨b', 0, none⟩) 1 c) (hr : w.cell? ⟨b', 0, none⟩ = some (.int .i64 v)) (hf : I64x v)
    (hl : n ≤ 1000000) (hbase : base ≤ w.heap.size)
    (h : ∀ g' cap' w', OwnI w' base (some ⟨g', 0, none⟩) (n + 1) cap' (l ++ [v]) → FlKeep A g' w w' → wpList Try.prog ops Q rs (a.put o.dst (.slice (some ⟨g', 0, none⟩) (n + 1) cap')) w') :
    wpList Try.prog ops Q (o :: rs) a w := by
  obtain ⟨i0, hi, hz0, hz1, hz2⟩ := info_parts Try.info_int
  have hsrc : ∀ (j : Nat) (u : Value), (ivs [v])[j]? = some u → w.cell? ((⟨b', 0, none⟩ : Addr).add j) = some u := fun j u hu => by
    cases j with
    | zero =>
      have e : some (Value.int .i64 v) = some u := hu
      rw [← e, Addr.add_mid]; exact hr
    | succ j => cases hu
  refine wpList_append_lies w hgd s x 43 ho base 3 i0 _ 1 8 Try.underlying43 hi hz0 hz1 hz2 rfl (by decide) _ n (ivs l) hs hown.1 ⟨b', 0, none⟩ 1 c (ivs [v]) hx rfl hsrc (ivs_one [v]) (by decide) (by unfold maxLen; omega) (by omega) hbase w.heap.size rfl ?_
  intro g' cap' w' h1 h2 h3 _
  refine h g' cap' w' ⟨?_, by rw [List.length_append, hown.2.1]; rfl, fun i hi => ?_⟩ (flKeep_of h2 (by rcases h3 with e | e; exact Or.inl e; exact Or.inr (by omega)))
  · have e : ivs (l ++ [v]) = ivs l ++ ivs [v] := by unfold ivs; rw [List.map_append]
    rw [e]; exact h1
  · rw [iAt_snoc]
    have hl := hown.2.1
    split
    · exact hown.2.2 i (by omega)
    · rw [if_pos (by omega)]; exact hf
end Go.Proofs.Ytilmicekpclmbaa
