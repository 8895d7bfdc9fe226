/-
  The contract of New, for sources of things of three ints.
-/
import Derived.Test.YtimfmflnaehmgaaTn
import Derived.Deep.RegionLaw
import Derived.RegionTactic
namespace Go.Proofs.Ytimfmflnaehmgaa
set_option linter.unusedVariables false
set_option linter.unusedSimpArgs false
set_option maxRecDepth 100000
open Go.RowKit

theorem LT.neq_less (fn : Fn) (p q : Array Value) (w : World) : (binOp .eql 50 (.func fn p q) .nilFunc).run Try.prog w = .ok (.bool false) w := by
  have h : ∃ a b c, Try.prog.underlying 50 = some (.func a b c) := ⟨_, _, _, Try.underlying50⟩
  obtain ⟨a, b, c, h⟩ := h
  simp only [binOp]
  simp [Op.equal, Op.maxDepth, LT.equal_fin 9999 _ a b c h fn p q w]
theorem cells_fun_t : Cells1 43 47 := by
  obtain ⟨i, h1, h2, h3, h4⟩ := info_parts (P := Try.prog) (e := 47) (z := .nilFunc) (size := 1) (bytes := 8) (by kernel_rfl)
  exact ⟨Try.underlying43, i, _, h1, h2, h3, by rw [h4]; decide, rfl⟩
/-- slices.Clone of sources. -/
theorem clone_src_t (A : Option Addr) (c : Nat) (vs : List Value) (w : World) (h : RowA w 47 A c vs) (h1 : ∀ u, u ∈ vs → u.oneCell' = true) (hn : vs.length ≤ 1000) (hA : A = none → vs = []) :
    Calls Try.prog 28 #[.slice A vs.length c] w fun e w' => ∃ A' c', e = .returned (.slice A' vs.length c') ∧ RowA w' 47 A' c' vs ∧ (∀ a, A' = some a → w.heap.size ≤ a.block) ∧ Below w.heap.size w w' := by
  obtain ⟨m, hm⟩ : ∃ m, vs.length = m := ⟨_, rfl⟩
  rw [hm] at hn ⊢
  have H := Lib.hid h; have HO := Lib.hid h1; have HM := Lib.hid hm
  rcases hA' : A with _ | a
  · have hv := hA hA'
    subst hv
    have hm : 0 = m := hm
    subst hm hA'
    have hc : c = 0 := by rcases h.parts with ⟨_, q, _⟩ | ⟨_, _, q, _⟩
                          · exact q
                          · cases q
    subst hc
    have en := eql_nil_l 43 47 none 0 0 Try.underlying43
    clear h h1 hA
    go_enter Try.func28, Try.ntmps28
    go_wp2_with fail
    go_ret
    exact ⟨none, 0, rfl, RowA.nil _ _, fun a ha => (by cases ha), Below.refl _ _⟩
  · subst hA'
    have en := eql_nil_l 43 47 (some a) m c Try.underlying43
    clear h h1 hA hm
    go_enter Try.func28, Try.ntmps28
    go_wp2_with (at_builtin; go_loud (refine app_row _ rfl _ _ 43 47 rfl Try.underlying43 .nilFunc 8 (by kernel_rfl) rfl (by decide) w.heap.size (some ⟨w.heap.size, 0, none⟩) 0 0 [] rfl rfl (RowO.empty w _ _ (Nat.le_refl _)) (some a) m c vs HM.out rfl (H.out.below ((Below.refl _ _).alloc (Nat.le_refl _) _)).src HO.out (by omega) (by simp) (by simp) ?_))
    intro A' c'' w' r1 r2 _
    have R1 := Lib.hid r1
    have B1 : Hid (Below w.heap.size w w') := Lib.hid (Below.grown (Below.alloc (Below.refl _ w) (Nat.le_refl _) (.cells #[] 47)) r2 (by simp) (fun k hk => by have hk : some w.heap.size = some k := hk; injection hk with hk; omega))
    clear r1 r2
    go_wp2
    go_ret
    exact ⟨A', c'', rfl, R1.out.row, fun a ha => (R1.out.ge a ha).1, B1.out⟩
theorem tvals_rep : ∀ k : Nat, tvals (List.replicate k [thz]) = List.replicate (k * 3) (.int .i64 0)
  | 0 => rfl
  | k + 1 => by
    have ih := tvals_rep k
    have e : ∀ R : List (List Th), tvals ([thz] :: R) = Value.int .i64 0 :: .int .i64 0 :: .int .i64 0 :: tvals R := fun _ => rfl
    rw [List.replicate_succ, e, ih, show (k + 1) * 3 = k * 3 + 1 + 1 + 1 by omega]
    rfl
theorem made3 (v : Value) (m : Nat) : madeCells #[v, v, v] m = Array.replicate m v := by
  apply Array.ext
  · rw [size_madeCells, Array.size_replicate]
  · intro i h1 h2
    rw [Array.getElem_replicate]
    have h3 : ∀ j, j < 3 → (#[v, v, v] : Array Value)[j]! = v := fun j hj => by
      rcases j with _ | _ | _ | j
      · rfl
      · rfl
      · rfl
      · omega
    have e : (madeCells #[v, v, v] m)[i] = (#[v, v, v] : Array Value)[(Array.range m)[i]'(by rw [size_madeCells] at h1; rw [Array.size_range]; exact h1) % 3]! := by
      unfold madeCells
      exact Array.getElem_map ..
    rw [e]
    exact h3 _ (Nat.mod_lt _ (by decide))
theorem make_th (t e : TypeId) (nb : Nat) (hinf : (Try.prog.info? e).map (fun i => (i.zero, i.size, i.bytes)) = some (some (.agg #[.int .i64 0, .int .i64 0, .int .i64 0]), 3, nb)) (hu : Try.prog.underlying t = some (.slice e)) (n : Nat) (hn : n ≤ 10000) (hb : nb ≤ 1000) (W : World) :
    (Instr.makeSlice t (.int .i64 (n : Int)) (.int .i64 (n : Int))).run Try.prog W = .ok (.slice (some ⟨W.heap.size, 0, none⟩) n n) (W.alloc (.cells (Array.replicate (n * 3) (.int .i64 0)) e)) := by
  obtain ⟨i0, hi, hz0, hz1, hz2⟩ := info_parts hinf
  have hb2 : (i0.bytes : Int) * (n : Int) ≤ 281474976710656 := by
    rw [hz2]
    have : nb * n ≤ 1000 * 10000 := Nat.mul_le_mul hb hn
    have e : ((nb * n : Nat) : Int) = (nb : Int) * (n : Int) := by push_cast; rfl
    omega
  have h := run_makeSlice (P := Try.prog) W t e i0 _ hu hi hz0 .i64 .i64 n n (by omega) (Int.le_refl _) (by rw [hz1]; simp; omega) hb2 (by omega)
  rw [h, hz1, Int.toNat_natCast, show (Value.agg #[.int .i64 0, .int .i64 0, .int .i64 0]).cells = #[.int .i64 0, .int .i64 0, .int .i64 0] from rfl, made3]
/-- A new tree, ahead of the first question. -/
def MadeT (w wr : World) (k d : Nat) (vs : List Value) (v : Value) : Prop := ∃ b L, v = .pointer (some ⟨b, 0, none⟩) ∧ L.d = d ∧ LT.In wr (fun _ => False) b vs (List.replicate k [thz]) L ∧ L.lv = k ∧ L.N = List.replicate (2 * 2 ^ d) ⟨none, 0, []⟩ ∧ (∀ x, TF (fun _ => False) b L x → w.heap.size ≤ x) ∧ Below w.heap.size w wr
theorem made_of_t {w W : World} {k d m2 c1 hb nb b : Nat} {vs : List Value} {A1 : Option Addr} (hm2 : m2 = 2 * 2 ^ d) (hk : vs.length = k) (hfit : k ≤ 2 ^ d) (hs : 2 ^ d ≤ 1000) (bb : Below w.heap.size w W)
    (st : Arr W b 61 [LT.fv, .slice A1 k c1, .slice (some ⟨hb, 0, none⟩) k k, .int .i64 (k : Int), .slice (some ⟨nb, 0, none⟩) m2 m2]) (src : RowA W 47 A1 c1 vs) (hand : Arr W hb 46 (List.replicate (k * 3) (.int .i64 0))) (nodes : Arr W nb 27 (List.replicate m2 (.slice none 0 0)))
    (g1 : w.heap.size ≤ b) (g2 : w.heap.size ≤ hb) (g3 : w.heap.size ≤ nb) (g4 : ∀ a, A1 = some a → w.heap.size ≤ a.block) : MadeT w W k d vs (.pointer (some ⟨b, 0, none⟩)) := by
  subst hm2
  refine ⟨b, ⟨A1, c1, hb, nb, d, k, List.replicate (2 * 2 ^ d) ⟨none, 0, []⟩⟩, rfl, rfl, ⟨?_, src, ?_, ⟨?_, fun m e he => ?_, fun m e a he ha => ?_, fun m m' e e' a a' he he' ha => ?_⟩, fun x hx => hx.elim, List.length_replicate, by rw [List.length_replicate]; exact hk, by rw [List.length_replicate]; exact hfit, hs, fun m e he => ?_⟩, rfl, rfl, fun x hx => ?_, bb⟩
  · rw [List.length_replicate, hk]; exact st
  · rw [tvals_rep]; exact hand
  · show Arr W nb _ ((List.replicate _ _).map Nd.v)
    rw [List.map_replicate]; exact nodes
  · have he := (List.mem_replicate.1 (List.mem_of_getElem? he)).2
    subst he; exact RowA.nil _ _
  · have he := (List.mem_replicate.1 (List.mem_of_getElem? he)).2
    subst he; cases ha
  · have he := (List.mem_replicate.1 (List.mem_of_getElem? he)).2
    subst he; cases ha
  · have he := (List.mem_replicate.1 (List.mem_of_getElem? he)).2
    subst he; exact ⟨Nat.zero_le _, fun i hi => by cases hi⟩
  · rcases hx with e | e | e | ⟨a, ha, e⟩ | e
    · omega
    · rw [e]; exact g2
    · rw [e]; exact g3
    · rw [e]; exact g4 a ha
    · exact e.elim
theorem PathT.ask {B : Nat} {w wr : World} {G : Nat → Prop} {b N i p : Nat} {ss : List Tr} {ps : List Nat} {q : Nat → Nat → Int} {R : List (List Th)} {L : Lay} {lv : Nat} {P Q : Nat → Prop} {s : Tr} (h : PathT B w wr G b N ss ps q R L lv P) (o : TrsOk B ss) (hB : ∀ k, TF G b L k → B ≤ k) (hBw : B ≤ w.heap.size) (hs : ss[i]? = some s) (hp : ps[i]? = some p) (hN : N ≤ 1000000000) (hlv : 1 ≤ lv ∧ lv ≤ 1000) (hQ : ∀ m, 1 ≤ m → m < 2 * 2 ^ L.d → Q m → m ≠ 2 ^ L.d + i → P m ∧ ∀ j, (2 ^ L.d + i) / 2 ^ j ≠ m) :
    Calls Try.prog 29 #[.pointer (some ⟨b, 0, none⟩), .int .i64 i] wr fun e w' => e = .returned (.tuple #[]) ∧ PathT B w w' G b (N + 1) ss (ps.set i (min (p + 1) s.l.length)) (up q s.pg s.po) (R.set i (leftT s p)) L (lv - (if leftT s p = [] then 1 else 0)) Q := by
  obtain ⟨G', M, a1, a2, a3, a4, a5⟩ := h
  have sub : ∀ k, TF G' b { L with lv := lv, N := M } k → TF G b L k ∨ w.heap.size ≤ k := fun k hk => by
    rcases hk with e | e | e | e | e
    · exact Or.inl (Or.inl e)
    · exact Or.inl (Or.inr (Or.inl e))
    · exact Or.inl (Or.inr (Or.inr (Or.inl e)))
    · exact Or.inl (Or.inr (Or.inr (Or.inr (Or.inl e))))
    · rcases a5 k e with e | e
      · exact Or.inl (Or.inr (Or.inr (Or.inr (Or.inr e))))
      · exact Or.inr e
  have kB : ∀ k, TF G' b { L with lv := lv, N := M } k → B ≤ k := fun k hk => by
    rcases sub k hk with e | e
    · exact hB k e
    · omega
  have hlen := a1.lens
  rw [List.length_map] at hlen
  have hiR : i < R.length := by have := (List.getElem?_eq_some_iff.1 hs).1; omega
  have hid : i < 2 ^ L.d := Nat.lt_of_lt_of_le hiR a1.fit
  have hM : (M.map Nd.xs).length = 2 * 2 ^ L.d := by rw [List.length_map]; exact a1.len
  refine (LT.ask_any G' B N b i ss ps q s p R { L with lv := lv, N := M } wr a1 kB hs hp a3 o hN hlv).mono ?_
  rintro e w' ⟨he, G2, A, c, b1, b2, b3, b4⟩
  refine ⟨he, G2, M.set (2 ^ L.d + i) ⟨A, c, if leftT s p = [] then [] else [i]⟩, b1, fun m m1 m2 hm => ?_, b2, a4.trans (F' := fun k => TF G' b { L with lv := lv, N := M } k ∨ WrT ss k) (fun k hk => ?_) b3, fun k hk => ?_⟩
  · rw [List.map_set]
    by_cases e : m = 2 ^ L.d + i
    · subst e
      have := Rt.leaf (key := tkey (R.set i (leftT s p))) (live := tlive (R.set i (leftT s p))) hid hM
      rw [tlive_at hiR] at this
      cases hu : leftT s p with
      | nil => rw [hu] at this; simpa using this
      | cons x r => rw [hu] at this; simpa using this
    · obtain ⟨q1, q2⟩ := hQ m m1 m2 hm e
      exact Rt.other ((a2 m m1 m2 q1).off m1 m2 (fun j hne => tkey_set j hne) (fun j hne => tlive_set j hne) q2) e
  · rcases hk with e | e
    · rcases sub k e with e | e
      · exact Or.inl (Or.inl e)
      · exact Or.inr e
    · exact Or.inl (Or.inr e)
  · rcases b4 k hk with e | e
    · exact a5 k e
    · exact Or.inr (Nat.le_trans a4.size e)
/-- The first i ones turned, the others as they were made. -/
def part_t {α : Type} (ss : List Tr) (f : Tr → α) (z : α) (i : Nat) : List α := (ss.take i).map f ++ List.replicate (ss.length - i) z
theorem part_zero_t {α : Type} (ss : List Tr) (f : Tr → α) (z : α) : part_t ss f z 0 = List.replicate ss.length z := by unfold part_t; simp
theorem part_all_t {α : Type} (ss : List Tr) (f : Tr → α) (z : α) : part_t ss f z ss.length = ss.map f := by unfold part_t; simp
theorem part_len_t {α : Type} (ss : List Tr) (f : Tr → α) (z : α) (i : Nat) (h : i ≤ ss.length) : (part_t ss f z i).length = ss.length := by unfold part_t; rw [List.length_append, List.length_map, List.length_take, List.length_replicate]; omega
theorem part_at_t {α : Type} (ss : List Tr) (f : Tr → α) (z : α) (i : Nat) (h : i < ss.length) : (part_t ss f z i)[i]? = some z := by
  unfold part_t
  rw [List.getElem?_append_right (by rw [List.length_map, List.length_take]; omega), List.length_map, List.length_take, Nat.min_eq_left (by omega), Nat.sub_self, List.getElem?_replicate, if_pos (by omega)]
theorem part_set_t {α : Type} (ss : List Tr) (f : Tr → α) (z : α) (i : Nat) (s : Tr) (h : ss[i]? = some s) : (part_t ss f z i).set i (f s) = part_t ss f z (i + 1) := by
  have hi := (List.getElem?_eq_some_iff.1 h).1
  unfold part_t
  rw [List.set_append_right _ _ (by rw [List.length_map, List.length_take]; omega), List.length_map, List.length_take, Nat.min_eq_left (by omega), Nat.sub_self]
  obtain ⟨m, hm⟩ : ∃ m, ss.length - i = m + 1 := ⟨ss.length - i - 1, by omega⟩
  rw [hm, show ss.length - (i + 1) = m by omega, List.replicate_succ, List.set_cons_zero, List.take_add_one, h, List.map_append, List.append_assoc]
  rfl
theorem tlives_rep (k : Nat) : tlives (List.replicate k [thz]) = k := by
  unfold tlives
  rw [List.filter_replicate]
  simp
/-- What New leaves. -/
def NewedT (w : World) (ss : List Tr) (q : Nat → Nat → Int) (N : Nat) : Ending → World → Prop := fun e w' =>
  ∃ b F, e = .returned (.pointer (some ⟨b, 0, none⟩)) ∧ TreeT w' w.heap.size F b ss (ss.map (fun s => min 1 s.l.length)) (ss.foldl (fun q s => up q s.pg s.po) q) (N + ss.length) (ss.map Tr.l) ∧ Keep (WrT ss) w w'
/-- Behind the first i questions. -/
def NewIT (B : Nat) (w wr : World) (b N : Nat) (ss : List Tr) (q : Nat → Nat → Int) (L : Lay) (i : Nat) : Prop :=
  PathT B w wr (fun _ => False) b (N + i) ss (part_t ss (fun s => min 1 s.l.length) 0 i) ((ss.take i).foldl (fun q s => up q s.pg s.po) q) (part_t ss Tr.l [thz] i) L (tlives (part_t ss Tr.l [thz] i)) (fun m => 2 ^ L.d ≤ m ∧ (m < 2 ^ L.d + i ∨ 2 ^ L.d + ss.length ≤ m))
theorem NewIT.step {B : Nat} {w wr : World} {b N i : Nat} {ss : List Tr} {q : Nat → Nat → Int} {L : Lay} (h : NewIT B w wr b N ss q L i) (o : TrsOk B ss) (hB : ∀ k, TF (fun _ => False) b L k → B ≤ k) (hBw : B ≤ w.heap.size) (hi : i < ss.length) (hn : ss.length ≤ 400) (hN : N ≤ 100000000) (hd : ss.length ≤ 2 ^ L.d) :
    Calls Try.prog 29 #[.pointer (some ⟨b, 0, none⟩), .int .i64 i] wr fun e w' => e = .returned (.tuple #[]) ∧ NewIT B w w' b N ss q L (i + 1) := by
  obtain ⟨s, hs⟩ : ∃ s, ss[i]? = some s := ⟨_, List.getElem?_eq_getElem hi⟩
  have hlen := part_len_t ss Tr.l [thz] i (by omega)
  have hat := part_at_t ss Tr.l [thz] i hi
  have hl1 := tlives_set (part_t ss Tr.l [thz] i) i thz [] [] hat
  have hl2 := tlives_set (part_t ss Tr.l [thz] i) i thz [] s.l hat
  have hle := tlives_le (part_t ss Tr.l [thz] i)
  have ls : leftT s 0 = s.l := by unfold leftT; rfl
  rw [if_pos rfl] at hl1
  refine (PathT.ask (i := i) (p := 0) (s := s) (Q := fun m => 2 ^ L.d ≤ m ∧ (m < 2 ^ L.d + (i + 1) ∨ 2 ^ L.d + ss.length ≤ m)) h o hB hBw hs (part_at_t ss _ 0 i hi) (by omega) (by omega) (fun m m1 m2 hm hne => ⟨⟨hm.1, by omega⟩, fun j hj => ?_⟩)).mono ?_
  · have hp := Nat.two_pow_pos L.d
    rcases j with _ | j
    · rw [Nat.pow_zero, Nat.div_one] at hj; omega
    · have : (2 ^ L.d + i) / 2 ^ (j + 1) ≤ (2 ^ L.d + i) / 2 := Nat.div_le_div_left (by rw [Nat.pow_succ]; have := Nat.two_pow_pos j; omega) (by decide)
      omega
  · rintro e w' ⟨he, hp⟩
    refine ⟨he, ?_⟩
    rw [ls, Nat.zero_add, part_set_t ss Tr.l [thz] i s hs, part_set_t ss (fun s => min 1 s.l.length) 0 i s hs] at hp
    unfold NewIT
    rw [List.take_add_one, hs, List.foldl_append]
    have e9 : tlives (part_t ss Tr.l [thz] i) - (if s.l = [] then 1 else 0) = tlives (part_t ss Tr.l [thz] (i + 1)) := by
      rw [← part_set_t ss Tr.l [thz] i s hs]; omega
    rw [e9] at hp
    exact hp
set_option maxHeartbeats 4000000 in
theorem new_any_t (A : Option Addr) (c N : Nat) (ss : List Tr) (q : Nat → Nat → Int) (w : World) (h : RowA w 47 A c (ss.map Tr.v)) (hn : ss.length ≤ 400) (hA : A = none → ss = []) (o : TrsOk w.heap.size ss) (sr : Trs w N ss (List.replicate ss.length 0) q) (hN : N ≤ 100000000) : 
    Calls Try.prog 16 #[LT.fv, .slice A ss.length c] w (NewedT w ss q N) := by
  obtain ⟨vs, hvs⟩ : ∃ vs, ss.map Tr.v = vs := ⟨_, rfl⟩
  obtain ⟨k, hk⟩ : ∃ m, vs.length = m := ⟨_, rfl⟩
  have hkss : ss.length = k := by rw [← hk, ← hvs, List.length_map]
  rw [hvs] at h
  have h1 : ∀ u, u ∈ vs → u.oneCell' = true := fun u hu => by
    rw [← hvs] at hu
    obtain ⟨s, _, rfl⟩ := List.mem_map.1 hu
    rfl
  have hA' : A = none → vs = [] := fun e => by rw [← hvs, hA e]; rfl
  have hn' : vs.length ≤ 1000 := by omega
  have CL := Lib.hid (fun w2 (bb : Below w.heap.size w w2) => clone_src_t A c vs w2 (h.below bb) h1 hn' hA')
  rw [hk] at CL
  rw [hkss] at hn ⊢
  have EN := LT.neq_less
  have HK := Lib.hid hk
  have HKS := Lib.hid hkss; have HVS := Lib.hid hvs; have O := Lib.hid o; have S0 := Lib.hid sr
  clear h h1 hA hA' hk hkss hvs o sr hn'
  unfold LT.fv
  go_enter Try.func16, Try.ntmps16
  go_wp2_with fail
  go_loopw [5] (fun lv wr => wr = w ∧ ∃ d : Nat, lv = .int .i64 ((2 ^ d : Nat) : Int) ∧ (2 ^ d = 1 ∨ 2 ^ d ≤ 2 * k)) (fun lv _ => k - (intOf lv).toNat)
  case atStart => exact ⟨rfl, 0, rfl, Or.inl rfl⟩
  case round =>
    obtain ⟨rfl, d, rfl, hd⟩ := hrel
    by_cases hlt : 2 ^ d < k
    · have e1 : ((2 ^ d : Nat) : Int) * 2 = ((2 ^ (d + 1) : Nat) : Int) := by rw [Nat.pow_succ]; omega
      have hd' : 2 ^ (d + 1) ≤ 2 * k := by rw [Nat.pow_succ]; omega
      have hp := Nat.two_pow_pos d
      have hdd : 2 ^ (d + 1) = 2 * 2 ^ d := by rw [Nat.pow_succ]; omega
      have E1 := Lib.hid hdd
      obtain ⟨m, hm⟩ : ∃ m, 2 ^ d = m := ⟨_, rfl⟩
      obtain ⟨m', hm'⟩ : ∃ m, 2 ^ (d + 1) = m := ⟨_, rfl⟩
      rw [hm, hm'] at e1
      rw [hm'] at hd'
      rw [hm] at hlt hp ⊢
      have hmm : m' = 2 * m := by have := E1.out; omega
      have HM := Lib.hid hm'
      clear hm hm' hd hdd
      have d1 : decide (m < k) = true := by rw [decide_eq_true_eq]; exact hlt
      have d2 : decide ((m : Int) < (k : Int)) = true := by rw [decide_eq_true_eq]; omega
      have e2 : IntKind.i64.wrap ((m : Int) * 2) = (m' : Int) := by rw [IntWalk.i64_in _ (by omega)]; omega
      have i9 : (m : Int) < (k : Int) := by omega
      go_wp2_with fail
      go_roundw
      case rel => exact ⟨trivial, d + 1, by rw [HM.out]; go_num, Or.inr (by rw [HM.out]; exact hd')⟩
      case measure => simp [intOf]; omega
    · obtain ⟨w0, hw0⟩ : ∃ x : World, x = wr := ⟨_, rfl⟩
      subst hw0
      obtain ⟨m, hm⟩ : ∃ m, 2 ^ d = m := ⟨_, rfl⟩
      have hd' : m ≤ 1000 ∧ k ≤ m := by omega
      rw [hm] at hlt ⊢
      have HM := Lib.hid hm
      clear hm hd
      have d1 : decide (m < k) = false := by rw [decide_eq_false_iff_not]; exact hlt
      have d2 : decide ((m : Int) < (k : Int)) = false := by rw [decide_eq_false_iff_not]; omega
      obtain ⟨m2, hm2⟩ : ∃ n, 2 * m = n := ⟨_, rfl⟩
      have e3 : IntKind.i64.wrap (2 * (m : Int)) = (m2 : Int) := by rw [IntWalk.i64_in _ (by omega)]; omega
      have MK1 : ∀ W : World, (Instr.makeSlice 44 (.int .i64 (k : Int)) (.int .i64 (k : Int))).run Try.prog W = .ok (.slice (some ⟨W.heap.size, 0, none⟩) k k) (W.alloc (.cells (Array.replicate (k * 3) (.int .i64 0)) 46)) := fun W => make_th _ _ 24 (by kernel_rfl) Try.underlying44 k (by omega) (by decide) W
      have MK2 : ∀ W : World, (Instr.makeSlice 34 (.int .i64 (m2 : Int)) (.int .i64 (m2 : Int))).run Try.prog W = .ok (.slice (some ⟨W.heap.size, 0, none⟩) m2 m2) (W.alloc (.cells (Array.replicate m2 (.slice none 0 0)) 27)) := fun W => make_one _ _ _ 24 (by kernel_rfl) Try.underlying34 rfl rfl m2 (by omega) (by decide) W
      go_upto_region 6 with fail
      go_cut [6] (fun v wd => MadeT w0 wd k d vs v)
      case first =>
        go_region_law (go_simp; go_at_call 28; refine (CL.out _ (by repeat (first | exact Below.refl _ _ | refine Below.drew ?_ | refine below_alloc ?_ _))).mono ?_; rintro e w1 ⟨A1, c1, rfl, r1, g1, b1⟩; have R1 := Lib.hid r1; have B1 := Lib.hid b1; have G1 := Lib.hid g1; clear r1 b1 g1)
        all_goals
          go_wp2_with fail
          go_meet
        all_goals
          have hsz : w0.heap.size ≤ w1.heap.size := by have q9 := B1.out.size; first | exact q9 | (simp at q9; omega)
          have g4 : ∀ a, A1 = some a → w0.heap.size ≤ a.block := fun a ha => by have q9 := G1.out a ha; first | exact q9 | (simp at q9; omega)
          refine made_of_t (m2 := m2) (by have := HM.out; omega) HK.out (by rw [HM.out]; omega) (by rw [HM.out]; omega) ?bb (arr_new _ _ _ [_, _, _, _, _] (by simp)) ?src ?hand ?nodes ?g1 ?g2 ?g3 g4
          case bb => repeat (first | exact Below.refl _ _ | refine Below.drew ?_ | refine below_alloc ?_ _ | refine bstep ?_ B1.out)
          case src => repeat (first | exact R1.out | refine RowA.below ?_ ((Below.refl _ _).alloc (Nat.le_refl _) _))
          case hand => repeat (first | exact arr_rep _ _ _ _ _ (by simp) | refine Arr.below ?_ ((Below.refl _ _).alloc (Nat.le_refl _) _) | refine Arr.below ?_ (Below.refl _ _).drew | refine Arr.below ?_ B1.out)
          case nodes => repeat (first | exact arr_rep _ _ _ _ _ (by simp) | refine Arr.below ?_ ((Below.refl _ _).alloc (Nat.le_refl _) _) | refine Arr.below ?_ (Below.refl _ _).drew | refine Arr.below ?_ B1.out)
          case g1 => omega
          case g2 => omega
          case g3 => omega
      case rest =>
        obtain ⟨b, L, rfl, hLd, hIn, hLl, hLN, hTF, hBl⟩ := hcut
        have hd2 : k ≤ 2 ^ L.d := by rw [hLd, HM.out]; exact hd'.2
        have N0 : Hid (NewIT w0.heap.size wc wc b N ss q L 0) := Lib.hid (by
          refine ⟨fun _ => False, L.N, ?_, fun m m1 m2 hm => ?_, ?_, Keep.refl _ _, Sub.refl _ _⟩
          · rw [part_zero_t, tlives_rep, HKS.out, HVS.out]
            have := hIn
            rw [show L = { L with lv := k, N := L.N } by rw [← hLl]] at this
            exact this
          · rw [part_zero_t]
            unfold Rt
            rw [hLN, List.map_replicate, List.getD_eq_getElem?_getD, List.getElem?_replicate]
            obtain ⟨hm1, hm2⟩ := hm
            obtain ⟨i, rfl⟩ : ∃ i, m = 2 ^ L.d + i := ⟨m - 2 ^ L.d, by omega⟩
            rw [below_leaf _ _ i (by omega)]
            have : tlive (List.replicate ss.length [thz]) i = false := by
              unfold tlive
              rw [List.getD_eq_getElem?_getD, List.getElem?_replicate, if_neg (by omega)]
              rfl
            have hf : [i].filter (tlive (List.replicate ss.length [thz])) = [] := by simp [this]
            rw [hf]
            split <;> rfl
          · rw [part_zero_t]
            exact S0.out.below O.out (Nat.le_refl _) hBl)
        have HT := Lib.hid hTF; have HBL := Lib.hid hBl; have HD := Lib.hid hLd
        have hs2 : 2 ^ L.d ≤ 1000 := hIn.small
        clear hIn hLl hLN hTF hLd hBl
        go_wp2_with fail
        go_loopw [32] (fun iv wx => ∃ i : Nat, i ≤ k ∧ iv = .int .i64 i ∧ NewIT w0.heap.size wc wx b N ss q L i) (fun iv _ => k - (intOf iv).toNat)
        case atStart => exact ⟨0, Nat.zero_le _, rfl, N0.out⟩
        case round =>
          obtain ⟨i, hik, rfl, hni⟩ := hrel
          by_cases hlt2 : i < k
          · have AK := Lib.hid (hni.step O.out HT.out HBL.out.size (by rw [HKS.out]; exact hlt2) (by rw [HKS.out]; omega) hN (by rw [HKS.out]; exact hd2))
            have d3 : decide ((i : Int) < (k : Int)) = true := by rw [decide_eq_true_eq]; omega
            have d4 : decide (i < k) = true := by rw [decide_eq_true_eq]; omega
            have i3 : (i : Int) < (k : Int) := by omega
            clear hni
            go_wp2_with fail
            refine AK.out.mono ?_
            rintro e w5 ⟨rfl, n5⟩
            have N5 := Lib.hid n5
            clear n5 AK
            go_wp2_with fail
            go_roundw
            case rel => exact ⟨i + 1, by omega, by go_num, N5.out⟩
            case measure => simp [intOf]; omega
          · obtain rfl : i = k := by omega
            have d3 : decide ((i : Int) < (i : Int)) = false := by rw [decide_eq_false_iff_not]; omega
            obtain ⟨n0, hn0⟩ : ∃ n, 2 ^ L.d - 1 = n := ⟨_, rfl⟩
            have hp := Nat.two_pow_pos L.d
            have e9 : IntKind.i64.wrap ((m : Int) - 1) = (n0 : Int) := by rw [IntWalk.i64_in _ (by omega)]; have := HM.out; rw [HD.out] at hn0 hp; omega
            have P5 : Hid (PathT w0.heap.size wc wr (fun _ => False) b (N + ss.length) ss (ss.map (fun s => min 1 s.l.length)) (ss.foldl (fun q s => up q s.pg s.po) q) (ss.map Tr.l) L (tlives (ss.map Tr.l)) (fun m => n0 < m)) := Lib.hid (by
              have hn5 := hni
              unfold NewIT at hn5
              rw [← HKS.out, part_all_t, part_all_t, List.take_length] at hn5
              obtain ⟨G', M, a1, a2, a3, a4, a5⟩ := hn5
              exact ⟨G', M, a1, fun m m1 m2 hm => a2 m m1 m2 ⟨by omega, by omega⟩, a3, a4, a5⟩)
            have hnd : n0 < 2 ^ L.d := by omega
            clear hni hp hn0
            go_wp2_with fail
            go_loopw [8] (fun nv wx => ∃ n : Nat, nv = .int .i64 n ∧ n < 2 ^ L.d ∧ PathT w0.heap.size wc wx (fun _ => False) b (N + ss.length) ss (ss.map (fun s => min 1 s.l.length)) (ss.foldl (fun q s => up q s.pg s.po) q) (ss.map Tr.l) L (tlives (ss.map Tr.l)) (fun m => n < m)) (fun nv _ => (intOf nv).toNat)
            case atStart => exact ⟨n0, rfl, hnd, P5.out⟩
            case round =>
              obtain ⟨n, rfl, hn3, hpi⟩ := hrel
              by_cases hz : n = 0
              · subst hz
                have FIN : Hid (NewedT w0 ss q N (.returned (.pointer (some ⟨b, 0, none⟩))) wr) := Lib.hid (by
                  obtain ⟨F', t1, t2, t3⟩ := hpi.done O.out HT.out HBL.out.size (fun m hm => by omega) rfl (fun j s' p' hj hp' => by
                    rw [List.getElem?_map, hj] at hp'
                    injection hp' with hp'
                    subst hp'
                    rw [List.getD_eq_getElem?_getD, List.getElem?_map, hj]
                    show s'.l.tail = leftT s' (min 1 s'.l.length)
                    unfold leftT
                    rcases hl : s'.l with _ | ⟨x, r⟩
                    · rfl
                    · simp)
                  refine ⟨b, F', rfl, t1, (Keep.of_below (F := WrT ss) HBL.out).trans (F' := fun k => TF (fun _ => False) b L k ∨ WrT ss k) (fun k hk => ?_) t2⟩
                  rcases hk with e | e
                  · exact Or.inr (HT.out k e)
                  · exact Or.inl e)
                clear hpi
                go_wp2_with fail
                go_ret
                exact FIN.out
              · have PL := Lib.hid (hpi.play (Q := fun m => n - 1 < m) O.out HT.out HBL.out.size (by omega) hn3 (by omega) (by omega) (fun m _ _ hm hne => by omega))
                have d3 : decide (0 < n) = true := by rw [decide_eq_true_eq]; omega
                have d4 : decide ((0 : Int) < (n : Int)) = true := by rw [decide_eq_true_eq]; omega
                have e8 : IntKind.i64.wrap ((n : Int) - 1) = ((n - 1 : Nat) : Int) := by rw [IntWalk.i64_in _ (by omega)]; omega
                have hh : n - 1 < 2 ^ L.d := by omega
                have hm3 : n - 1 < n := by omega
                clear hpi
                go_wp2_with fail
                refine PL.out.mono ?_
                rintro e w6 ⟨rfl, p6⟩
                have P6 := Lib.hid p6
                clear p6 PL
                go_wp2_with fail
                go_roundw
                case rel => exact ⟨n - 1, by go_num, hh, P6.out⟩
                case measure => simp [intOf]; omega
end Go.Proofs.Ytimfmflnaehmgaa
