/-
  The walk of the statement LoserPlays: the call returns true; nothing that was in memory turns.
-/
import Derived.Test.YtimfmflnaehmgaaLPm
namespace Go.Proofs.Ytimfmflnaehmgaa
set_option linter.unusedVariables false
set_option linter.unusedSimpArgs false
set_option maxRecDepth 100000
open Go.RowKit

/-- LoserPlays' sources, i of them made. -/
structure PlI (w0 wr : World) (ga : Nat) (g : Nat → GRow) (i : Nat) (Af : Option Addr) (cf : Nat) (ss : List Sr) : Prop where
  len : ss.length = i
  row : RowA wr 25 Af cf (ss.map Sr.v)
  ok : SrsOk wr.heap.size ss
  srs : Srs wr 0 ss (List.replicate i 0) (fun _ _ => 0)
  own : ∀ (j : Nat) (s : Sr), ss[j]? = some s → s.pg = ga ∧ s.po = j ∧ s.l = (g j).2.2 ∧ w0.heap.size ≤ s.bt ∧ w0.heap.size ≤ s.ba ∧ w0.heap.size ≤ s.bl ∧ ∀ a, s.On a → a.block < ga
  far : ∀ a, Af = some a → ¬ SB ss a.block ∧ w0.heap.size ≤ a.block
theorem PlI.step {wa w0 wr w2 w4 : World} {ga K i z cf c4 : Nat} {g : Nat → GRow} {Af A4 : Option Addr} {ss : List Sr} (h : PlI w0 wr ga g i Af cf ss) (hz : wr.heap.size = z) (h0 : w0.heap.size ≤ z) (hga : ga < w0.heap.size) (hwa : wa.heap.size ≤ ga)
    (B2 : Below wr.heap.size wr w2) (S2 : w2.heap.size = z + 3) (A2 : Arr w2 (z + 1) 28 [.pointer (some ⟨ga, i, none⟩)]) (T2 : Arr w2 (z + 2) 3 [.int .i64 0]) (L2 : Arr w2 z 27 [.slice (g i).1 (g i).2.2.length (g i).2.1])
    (R0 : IRz wa (g i).1 (g i).2.2) (R1 : IRz wr (g i).1 (g i).2.2) (hl : (g i).2.2.length ≤ 281474976710656) (cn : Arr wr ga 3 (List.replicate K (.int .i64 0))) (hi : i < K) (o : Obj)
    (K4 : Keep (Of Af) (w2.alloc o) w4) (F4 : A4 = Af ∨ ∃ g, A4 = some ⟨g, 0, none⟩ ∧ (w2.alloc o).heap.size ≤ g) (R4 : RowA w4 25 A4 c4 (ss.map Sr.v ++ [Sr.v ⟨z + 1, z + 2, z, ga, i, (g i).1, (g i).2.1, (g i).2.2⟩])) :
    PlI w0 w4 ga g (i + 1) A4 c4 (ss ++ [⟨z + 1, z + 2, z, ga, i, (g i).1, (g i).2.1, (g i).2.2⟩]) ∧ Arr w4 ga 3 (List.replicate K (.int .i64 0)) := by
  have hso : (w2.alloc o).heap.size = z + 4 := by simp [S2]
  have hs4 : z + 4 ≤ w4.heap.size := by have := K4.size; omega
  have al : Below w2.heap.size w2 (w2.alloc o) := (Below.refl _ _).alloc (Nat.le_refl _) _
  have AfB : ∀ a, Af = some a → a.block < z ∧ w0.heap.size ≤ a.block := fun a ha => ⟨by have := h.row.lt a ha; omega, (h.far a ha).2⟩
  -- what lies outside Af's block, and was there
  have kp : ∀ k, k < z + 4 → (∀ a, Af = some a → a.block ≠ k) → w4.heap[k]? = (w2.alloc o).heap[k]? := fun k hk hn => K4.block k (by omega) (fun ⟨a, ha, e⟩ => hn a ha e.symm)
  have kr : ∀ k, k < z → (∀ a, Af = some a → a.block ≠ k) → w4.heap[k]? = wr.heap[k]? := fun k hk hn => by
    rw [kp k (by omega) hn, al.block k (by omega), B2.block k (by omega)]
  have newA : ∀ {k : Nat} {t : TypeId} {vs : List Value}, z ≤ k → Arr w2 k t vs → Arr w4 k t vs := fun {k t vs} hk ha => by
    have hlt := Arr.lt ha
    exact Arr.same ha (by rw [kp k (by omega) (fun a ha' => by have := AfB a ha'; omega), al.block k hlt])
  have cn4 : Arr w4 ga 3 (List.replicate K (.int .i64 0)) := Arr.same cn (kr ga (by omega) (fun a ha => by have := AfB a ha; omega))
  have low := h.ok.low
  have onA : ∀ a, (g i).2.2 ≠ [] ∧ (g i).1 = some a → a.block < ga := fun a ha => by have := R0.lt a ha; omega
  have hsb : ∀ k, SB ss k → k < z ∧ (∀ a, Af = some a → a.block ≠ k) := fun k hk => ⟨by have := h.ok.sb k hk; omega, fun a ha e => (h.far a ha).1 (e ▸ hk)⟩
  refine ⟨⟨by rw [List.length_append, h.len]; rfl, by rw [List.map_append]; exact R4, ?_, ?_, fun j s hj => ?_, fun a ha => ?_⟩, cn4⟩
  · refine h.ok.snoc (by omega) ⟨by show _ ≤ z + 1; omega, by show z + 1 < _; omega⟩ ⟨by show _ ≤ z + 2; omega, by show z + 2 < _; omega⟩ ⟨by show _ ≤ z; omega, by show z < _; omega⟩ ⟨by show z + 2 ≠ z + 1; omega, by show z + 2 ≠ z; omega⟩ (by show ga < _; omega) ⟨by show ga ≠ z + 1; omega, by show ga ≠ z; omega, by show ga ≠ z + 2; omega⟩ (fun a ha => ?_) (fun j s' hj => ?_) (fun j s' hj => ?_)
    · have hb := onA a ha
      refine ⟨by omega, by show a.block ≠ z + 2; omega, by show a.block ≠ ga; omega, fun j s' hj => ?_⟩
      have := h.own j s' hj
      omega
    · have e1 := (h.own j s' hj).1
      have q1 := h.ok.ask j j s' s' hj hj
      have q2 := h.ok.at_ j j s' s' hj hj
      rw [e1] at q1 q2
      exact ⟨q1.1, q1.2.1, Ne.symm q2.2.2.1, q1.2.2⟩
    · have e1 := (h.own j s' hj).1
      rw [e1]
      exact ⟨by show ga ≠ z + 1; omega, by show ga ≠ z; omega, by show ga ≠ z + 2; omega⟩
  · have e : List.replicate (i + 1) (0 : Nat) = List.replicate i 0 ++ [0] := List.replicate_succ'
    rw [e]
    refine (h.srs.stay (fun k hk => kr k (hsb k hk).1 (hsb k hk).2) (by omega)).snoc (SrAt.of (newA (by show z ≤ z + 1; omega) A2) (newA (by show z ≤ z + 2; omega) T2) (newA (Nat.le_refl z) L2) (R1.same (fun a ha => kr a.block (by have := onA a ha; omega) (fun a' ha' => by have := AfB a' ha'; have := onA a ha; omega)) (by omega)) (by show ga < _; omega) hl) ⟨?_, Arr.frozen cn4 i, by omega, by omega⟩
    show w4.cell? ⟨ga, i, none⟩ = _
    rw [Arr.cell cn4, List.getElem?_replicate, if_pos hi]
  · rcases snoc_at hj with ⟨q, q'⟩ | ⟨q', rfl⟩
    · exact h.own j s q
    · exact ⟨rfl, by show i = j; rw [q', h.len], by rw [q', h.len], by show _ ≤ z + 2; omega, by show _ ≤ z + 1; omega, by show _ ≤ z; omega, onA⟩
  · have nsb : ∀ k, SB (ss ++ [⟨z + 1, z + 2, z, ga, i, (g i).1, (g i).2.1, (g i).2.2⟩]) k → SB ss k ∨ (z ≤ k ∧ k < z + 3) ∨ k ≤ ga := fun k ⟨j, s, hj, e⟩ => by
      rcases snoc_at hj with ⟨q, _⟩ | ⟨_, rfl⟩
      · exact Or.inl ⟨j, s, q, e⟩
      · rcases e with e | e | e | e | ⟨a', ha', e⟩
        · have e : k = z + 1 := e; omega
        · have e : k = z + 2 := e; omega
        · have e : k = z := e; omega
        · have e : k = ga := e; omega
        · have := onA a' ha'; omega
    rcases F4 with e | ⟨g', e, hg⟩
    · rw [e] at ha
      have := AfB a ha
      refine ⟨fun q => ?_, this.2⟩
      rcases nsb _ q with q | q | q
      · exact (h.far a ha).1 q
      · omega
      · omega
    · rw [e] at ha
      injection ha with ha
      subst ha
      refine ⟨fun q => ?_, by show _ ≤ g'; omega⟩
      have q : SB _ g' := q
      rcases nsb _ q with q | q | q
      · have := (hsb _ q).1; omega
      · omega
      · omega
theorem Tree.keep2 {w w' : World} {B : Nat} {F F' : Nat → Prop} {b : Nat} {ss : List Sr} {ps : List Nat} {q : Nat → Nat → Int} {N : Nat} {R : List (List Int)} (h : Tree w B F b ss ps q N R) (k : Keep F' w w') (h1 : ∀ k, F k → ¬ F' k) (h2 : ∀ k, SB ss k → ¬ F' k) : Tree w' B F b ss ps q N R := by
  have hl := h.len
  obtain ⟨G, L, e, a1, a2⟩ := h.lay
  refine ⟨⟨G, L, e, a1.keep k (fun x hx => h1 x (by rw [e]; exact hx)), a2⟩, h.srs.stay (fun x hx => k.block x (by have := h.ok.sb x hx; omega) (h2 x hx)) k.size, h.ok, h.up, h.rest⟩
theorem lives_dead {R : List (List Int)} (h : ∀ j, j < R.length → hlive R j = false) : lives R = 0 := by
  rcases Nat.eq_zero_or_pos (lives R) with e | e
  · exact e
  · obtain ⟨i, hi⟩ := lives_pos (R := R) (by omega)
    rw [h i (hlive_lt hi)] at hi
    cases hi
/-- What the law reads of source j. -/
theorem pl_facts {wy : World} {A : Option Addr} {K gt j : Nat} {g : Nat → GRow} {ats : List Nat} (hG : GIn wy A K g) (hat : Arr wy gt 3 (ivals ats)) (hal : ats.length = K) (hj : j < K) :
    ∃ (b o aj nj cj : Nat) (Aj : Option Addr), A = some ⟨b, o, none⟩ ∧ wy.cell? ⟨b, o + j, none⟩ = some (.slice Aj nj cj) ∧ wy.cell? ⟨gt, j, none⟩ = some (.int .i64 (aj : Int)) ∧ wy.frozen? ⟨gt, j, none⟩ = false ∧ aj = ats.getD j 0 ∧ nj = (g j).2.2.length ∧ nj ≤ 281474976710656 ∧
      (aj < nj → ∃ (bj oj : Nat) (x : Int), Aj = some ⟨bj, oj, none⟩ ∧ wy.cell? ⟨bj, oj + aj, none⟩ = some (.int .i64 x) ∧ (g j).2.2[aj]? = some x) := by
  obtain ⟨b, o, h1, h2, h3, h4, h5⟩ := hG.row j hj
  have hjl : j < ats.length := by omega
  refine ⟨b, o, ats.getD j 0, _, _, _, h1, h3, ?_, Arr.frozen hat j, rfl, rfl, h5, fun hlt => ?_⟩
  · rw [Arr.cell hat]
    exact ivals_get (by rw [List.getD_eq_getElem?_getD, List.getElem?_eq_getElem hjl]; rfl)
  · obtain ⟨x, hx⟩ : ∃ x, (g j).2.2[ats.getD j 0]? = some x := ⟨_, List.getElem?_eq_getElem hlt⟩
    obtain ⟨bj, oj, q1, q2, q3⟩ := h4 _ x hx
    exact ⟨bj, oj, x, q1, q3, hx⟩
set_option maxHeartbeats 4000000 in
theorem lplays_any (A : Option Addr) (len cap : Nat) (g : Nat → GRow) (w : World) (h : GIn w A len g) (hc : len ≤ cap) (hm : cap ≤ maxLen) :
    Calls Try.prog 4 #[.slice A len cap] w fun e w' => e = .returned (.bool true) ∧ Below w.heap.size w w' := by
  obtain ⟨K, hK⟩ : ∃ K, min len 9 = K := ⟨_, rfl⟩
  have hK1 : min (len : Int) 9 = (K : Int) := by omega
  have hK9 : K ≤ 9 := by omega
  have hKc : K ≤ cap := by omega
  have GI := Lib.hid (h.take (show K ≤ len by omega))
  have kc : (K : Int) ≤ (cap : Int) := by omega
  clear h hm hK hc
  have MK : ∀ W : World, (Instr.makeSlice 27 (.int .i64 (K : Int)) (.int .i64 (K : Int))).run Try.prog W = .ok (.slice (some ⟨W.heap.size, 0, none⟩) K K) (W.alloc (.cells (Array.replicate K (.int .i64 0)) 3)) := fun W => make_one _ _ _ 8 (by kernel_rfl) Try.underlying27 rfl rfl K (by omega) (by decide) W
  go_enter Try.func4, Try.ntmps4
  go_upto_region 5 with fail
  obtain ⟨B, hB⟩ : ∃ B, w.heap.size = B := ⟨_, rfl⟩
  obtain ⟨w1, hw1⟩ : ∃ W, W = (w.alloc (.cells (Array.replicate K (.int .i64 0)) 3)).alloc (.cells (Array.replicate K (.int .i64 0)) 3) := ⟨_, rfl⟩
  rw [← hw1]
  have hs1 : w1.heap.size = B + 2 := by rw [hw1, ← hB]; simp
  have AA1 := Lib.hid (show Arr w1 B 3 (List.replicate K (.int .i64 0)) by rw [hw1, ← hB]; exact Arr.below (arr_rep _ _ _ _ _ rfl) ((Below.refl _ _).alloc (Nat.le_refl _) _))
  have AT1 := Lib.hid (show Arr w1 (B + 1) 3 (List.replicate K (.int .i64 0)) by rw [hw1, ← hB]; exact arr_rep _ _ _ _ _ (by simp))
  have BW1 := Lib.hid (show Below w.heap.size w w1 by rw [hw1]; exact below_alloc (below_alloc (Below.refl _ _) _) _)
  rw [hB]
  have HB := Lib.hid hB; have HS1 := Lib.hid hs1
  clear hw1 hB hs1 MK
  go_wp2_with fail
  go_loopw [4, 7, 30] (fun fv tv iv wr => ∃ (i : Nat) (Af : Option Addr) (cf : Nat) (ss : List Sr) (t : Int), i ≤ K ∧ iv = .int .i64 i ∧ fv = .slice Af i cf ∧ tv = .int .i64 t ∧ (0 ≤ t ∧ t ≤ i * 281474976710656) ∧ PlI w1 wr B g i Af cf ss ∧ Arr wr B 3 (List.replicate K (.int .i64 0)) ∧ Arr wr (B + 1) 3 (List.replicate K (.int .i64 0)) ∧ Below w.heap.size w wr ∧ B + 2 ≤ wr.heap.size) (fun _ _ iv _ => K - (intOf iv).toNat)
  case atStart => exact ⟨0, none, 0, [], 0, Nat.zero_le _, rfl, rfl, rfl, ⟨by omega, by omega⟩, ⟨rfl, RowA.nil _ _, SrsOk.nil _, Srs.nil _ _ _, fun j s h => by simp at h, fun a ha => by cases ha⟩, AA1.out, AT1.out, BW1.out, by rw [HS1.out]; exact Nat.le_refl _⟩
  case round =>
    obtain ⟨i, Af, cf, ss, t, hi, rfl, rfl, rfl, htb, hp, ha, ht, hb, hsz⟩ := hrel
    by_cases hlt : i < K
    · have GI2 := GI.out.row
      obtain ⟨b1, o1, rfl, hl1, c1, r1, n1⟩ := (GI.out.below hb).row i hlt
      have i1 : (i : Int) < (K : Int) := by omega
      have d1 : decide ((i : Int) < (K : Int)) = true := by rw [decide_eq_true_eq]; omega
      obtain ⟨Ai, hAi⟩ : ∃ x, (g i).1 = x := ⟨_, rfl⟩
      obtain ⟨ci, hci⟩ : ∃ x, (g i).2.1 = x := ⟨_, rfl⟩
      obtain ⟨ni, hni⟩ : ∃ x, (g i).2.2.length = x := ⟨_, rfl⟩
      rw [hAi, hci, hni] at c1
      rw [hAi] at r1
      have HAI := Lib.hid hAi; have HCI := Lib.hid hci; have HNI := Lib.hid hni
      have R0 := Lib.hid (show IRz w Ai (g i).2.2 by obtain ⟨_, _, _, _, _, q, _⟩ := GI.out.row i hlt; rw [hAi] at q; exact q)
      have hni2 : ni ≤ 281474976710656 := by rw [← hni]; exact n1
      have et : IntKind.i64.wrap (t + (ni : Int)) = t + (ni : Int) := IntWalk.i64_in _ (by omega)
      have HTB := Lib.hid (show 0 ≤ t + (ni : Int) ∧ t + (ni : Int) ≤ ((i + 1 : Nat) : Int) * 281474976710656 by omega)
      have HP := Lib.hid hp; have HA := Lib.hid ha; have HT := Lib.hid ht; have HBW := Lib.hid hb; have R1 := Lib.hid r1
      clear hp ha ht hb r1 GI2 hAi hci hni
      go_wp2_with fail
      obtain ⟨z, hz⟩ : ∃ z, wr.heap.size = z := ⟨_, rfl⟩
      have CS := Lib.hid (source_at Ai ni ci B i (z + 1) (z + 2) z wr.drew (show z = wr.heap.size from hz.symm) (show z + 1 = wr.heap.size + 1 by rw [hz]) (show z + 2 = wr.heap.size + 2 by rw [hz]))
      have HZ := Lib.hid hz
      have LR : Hid ((ss.map Sr.v).length = i) := Lib.hid (by rw [List.length_map]; exact HP.out.len)
      clear hz
      go_region_law (first | (go_simp; go_at_call 9; refine CS.out.mono ?_; rintro e w2 ⟨rfl, s2, a2, t2, l2, b2⟩; have S2 := Lib.hid s2; have A2 := Lib.hid a2; have T2 := Lib.hid t2; have L2 := Lib.hid l2; have B2 := Lib.hid (bstep (Below.refl _ wr).drew b2); have BA2 := Lib.hid ((Below.refl _ w2).alloc (Nat.le_refl _) (.cells #[(Value.func (.func 23) #[] #[.pointer (some ⟨z + 1, 0, none⟩), .pointer (some ⟨z + 2, 0, none⟩), .pointer (some ⟨z, 0, none⟩)])] 25)); have RW2 := Lib.hid ((HP.out.row.below B2.out).below BA2.out); clear s2 a2 t2 l2 b2) | (refine step_row_app cells_fun rfl _ _ rfl Af i cf (ss.map Sr.v) rfl RW2.out LR.out (some ⟨w2.heap.size, 0, none⟩) 1 1 [(Value.func (.func 23) #[] #[.pointer (some ⟨z + 1, 0, none⟩), .pointer (some ⟨z + 2, 0, none⟩), .pointer (some ⟨z, 0, none⟩)])] rfl rfl (Src.one w2 25 _ _ _) (fun u hu => (by rw [List.mem_singleton.1 hu]; rfl)) (by omega) ?_; intro A4 c4 w4 r4 k4 a4; have R4 := Lib.hid r4; have K4 := Lib.hid k4; have F4 := Lib.hid a4; clear r4 k4 a4))
      have ST := Lib.hid (HP.out.step (wa := w) (K := K) HZ.out (by have := hsz; have := HS1.out; have := HZ.out; omega) (by rw [HS1.out]; omega) (by rw [HB.out]; exact Nat.le_refl _) B2.out (by rw [S2.out]; show wr.heap.size + 3 = _; rw [HZ.out]) A2.out T2.out (by rw [HAI.out, HCI.out, HNI.out]; exact L2.out) (by rw [HAI.out]; exact R0.out) (by rw [HAI.out]; exact R1.out) n1 HA.out hlt _ K4.out F4.out (by have := R4.out; rw [HAI.out, HCI.out]; exact this))
      have AT4 : Hid (Arr w4 (B + 1) 3 (List.replicate K (.int .i64 0))) := Lib.hid (Arr.same HT.out (by
        have h1 := HZ.out
        have h2 := HS1.out
        have h3 : B + 1 < z := by have := hsz; omega
        have h4 := S2.out
        have h5 : w2.heap.size = wr.heap.size + 3 := h4
        rw [K4.out.block (B + 1) (by simp; omega) (fun ⟨a, ha, e⟩ => by have := (HP.out.far a ha).2; omega), BA2.out.block (B + 1) (by omega), B2.out.block (B + 1) (by omega)]))
      have BW4 : Hid (Below w.heap.size w w4) := Lib.hid (Keep.below K4.out (fun k ⟨a, ha, e⟩ => by have := (HP.out.far a ha).2; rw [HS1.out] at this; rw [HB.out]; omega) (HBW.out.trans ((bstep B2.out BA2.out).mono HBW.out.size)) (Nat.le_trans HBW.out.size (bstep B2.out BA2.out).size))
      have SZ4 : Hid (B + 2 ≤ w4.heap.size) := Lib.hid (by have h1 := K4.out.size; have h2 := BA2.out.size; have h3 := B2.out.size; omega)
      go_wp2_with fail
      go_roundw
      case rel => exact ⟨i + 1, A4, c4, _, _, by omega, by go_num, rfl, rfl, HTB.out, ST.out.1, ST.out.2, AT4.out, BW4.out, SZ4.out⟩
      case measure => simp [intOf]; omega
    · obtain rfl : i = K := by omega
      have d1 : decide ((i : Int) < (i : Int)) = false := by rw [decide_eq_false_iff_not]; omega
      have hlen := hp.len
      have hA0 : Af = none → ss = [] := fun e => by
        rcases hp.row.parts with ⟨_, _, q⟩ | ⟨_, _, q, _⟩
        · exact List.map_eq_nil_iff.1 q
        · rw [e] at q; cases q
      have NW := Lib.hid (new_any Af cf 0 ss (fun _ _ => 0) wr hp.row (by omega) hA0 hp.ok (by rw [hlen]; exact hp.srs) (by decide))
      rw [hlen] at NW
      have hls : ss.map Sr.l = rat g i (List.replicate i 0) := by
        apply List.ext_getElem?
        intro j
        rw [List.getElem?_map]
        by_cases hj : j < i
        · obtain ⟨s, hs⟩ : ∃ s, ss[j]? = some s := ⟨_, List.getElem?_eq_getElem (by omega)⟩
          rw [hs, rat_at g i _ j hj, (show (List.replicate i 0).getD j 0 = 0 by rw [List.getD_eq_getElem?_getD, List.getElem?_replicate]; split <;> rfl)]
          show some s.l = some (List.drop 0 _)
          rw [(hp.own j s hs).2.2.1]; rfl
        · rw [List.getElem?_eq_none (by omega), List.getElem?_eq_none (by rw [rat_len]; omega)]; rfl
      have hone := asked_once B ss (fun j s hj => ⟨(hp.own j s hj).1, (hp.own j s hj).2.1⟩) ss.length (Nat.le_refl _)
      rw [List.take_length, hlen] at hone
      obtain ⟨T, hT⟩ : ∃ T : Nat, min t 120 = (T : Int) := ⟨(min t 120).toNat, by omega⟩
      have hT2 : T ≤ 120 := by omega
      have e8 : IntKind.i64.wrap ((T : Int) + 1) = ((T + 1 : Nat) : Int) := by rw [IntWalk.i64_in _ (by omega)]; omega
      obtain ⟨Bn, hBn⟩ : ∃ z, wr.heap.size = z := ⟨_, rfl⟩
      have HP := Lib.hid hp; have HT := Lib.hid ht; have HBW := Lib.hid hb; have HLS := Lib.hid hls; have HONE := Lib.hid hone; have HBN := Lib.hid hBn
      have hBB : B + 2 ≤ Bn := by omega
      clear hp ha ht hb hls hone hlen hA0 hBn htb hsz
      go_wp2_with fail
      refine NW.out.mono ?_
      rintro e w5 ⟨b, F, rfl, tr, kp⟩
      rw [HLS.out, HBN.out] at tr
      have wrB : ∀ k, Wr ss k → k = B ∨ B + 2 ≤ k := fun k ⟨j, s, hs, hk⟩ => by
        have q := HP.out.own j s hs
        rcases hk with e | e
        · have := HS1.out; omega
        · omega
      have AT5 := Lib.hid (show Arr w5 (B + 1) 3 (ivals (List.replicate i 0)) by
        have q := Arr.same HT.out (kp.block (B + 1) (by rw [HBN.out]; omega) (fun e => by have := wrB _ e; omega))
        have e9 : ivals (List.replicate i 0) = List.replicate i (.int .i64 0) := by unfold ivals; rw [List.map_replicate]; rfl
        rw [e9]; exact q)
      have BW5 := Lib.hid (show Below w.heap.size w w5 from Keep.below kp (fun k hk => by rw [HB.out]; rcases wrB k hk with e | e <;> omega) HBW.out HBW.out.size)
      have TR := Lib.hid tr
      have WB := Lib.hid wrB
      clear tr kp wrB NW
      go_wp2_with fail
      go_loopw [10] (fun kv wx => ∃ (k : Nat) (ats ps : List Nat) (F : Nat → Prop) (q : Nat → Nat → Int) (N : Nat), kv = .int .i64 k ∧ k ≤ T + 1 ∧ ats.length = i ∧ (∀ j, j < i → ats.getD j 0 ≤ (g j).2.2.length) ∧ Arr wx (B + 1) 3 (ivals ats) ∧ Tree wx Bn F b ss ps q N (rat g i ats) ∧ N ≤ 9 + k ∧ (∀ j, j < i → q B j = ((min (ats.getD j 0 + 1) ((g j).2.2.length + 1) : Nat) : Int)) ∧ Below w.heap.size w wx) (fun kv _ => T + 1 - (intOf kv).toNat)
      case atStart => exact ⟨0, List.replicate i 0, _, F, _, _, rfl, Nat.zero_le _, List.length_replicate, fun j hj => by rw [List.getD_eq_getElem?_getD, List.getElem?_replicate]; split <;> exact Nat.zero_le _, AT5.out, TR.out, by rw [HP.out.len]; omega, fun j hj => by rw [HONE.out j, if_pos hj, List.getD_eq_getElem?_getD, List.getElem?_replicate, if_pos hj]; show (1 : Int) = ((min (0 + 1) _ : Nat) : Int); omega, BW5.out⟩
      case round =>
        obtain ⟨k, ats, ps, F, q, N, rfl, hk, hal, hle, hat, htr, hN, hq, hbw⟩ := hrel
        by_cases hlt2 : k < T + 1
        · have d2 : decide ((k : Int) < (T : Int) + 1) = true := by rw [decide_eq_true_eq]; omega
          have d3 : decide (k < T + 1) = true := by rw [decide_eq_true_eq]; omega
          have i4 : (k : Int) < (T : Int) + 1 := by omega
          obtain ⟨wk, hwk⟩ : ∃ x : World, x = wr := ⟨_, rfl⟩
          subst hwk
          have AT := Lib.hid hat; have TT := Lib.hid htr; have HQ := Lib.hid hq; have BWk := Lib.hid hbw; have HLE := Lib.hid hle; have HAL := Lib.hid hal; have HNN := Lib.hid hN
          clear hat htr hq hbw hle hal hN
          go_wp2_with fail
          go_loopw [11, 12, 65] (fun bv lv iv wy => ∃ (m : Nat) (z : Int) (n : Nat), m ≤ i ∧ iv = .int .i64 m ∧ bv = .int .i64 z ∧ lv = .int .i64 n ∧ BestTo (rat g i ats) m z ∧ n = lives ((rat g i ats).take m) ∧ Below wk.heap.size wk wy) (fun _ _ iv _ => i - (intOf iv).toNat)
          case atStart => exact ⟨0, -1, 0, Nat.zero_le _, rfl, rfl, rfl, BestTo.zero _, rfl, Below.refl _ _⟩
          case round =>
            obtain ⟨m, z, n, hm, rfl, rfl, rfl, hbt, hn, hb⟩ := hrel
            by_cases hm2 : m < i
            · have d5 : decide ((m : Int) < (i : Int)) = true := by rw [decide_eq_true_eq]; omega
              have i5 : (m : Int) < (i : Int) := by omega
              have BWm := Lib.hid (BWk.out.trans (hb.mono BWk.out.size))
              have GIm := Lib.hid (GI.out.below BWm.out)
              have ATm := Lib.hid (Arr.below AT.out hb)
              obtain ⟨b1, o1, am, nm, cm, Am, rfl, c1, c2, _, ha1, ha2, ha3, ha4⟩ := pl_facts GIm.out ATm.out HAL.out hm2
              obtain ⟨sm, hsm⟩ : ∃ s, ss[m]? = some s := ⟨_, List.getElem?_eq_getElem (by have := HP.out.len; omega)⟩
              have hown := HP.out.own m sm hsm
              obtain ⟨pm, hpm⟩ : ∃ x, min (am + 1) (nm + 1) = x := ⟨_, rfl⟩
              have c3 : wr.cell? ⟨B, m, none⟩ = some (.int .i64 (pm : Int)) := by
                have q9 := ((TT.out.below hb).srs.cnt m sm hsm).1
                rw [hown.1, hown.2.1, HQ.out m hm2, ← ha1, ← ha2, hpm] at q9
                exact q9
              have m1 : min ((am : Int) + 1) ((nm : Int) + 1) = (pm : Int) := by omega
              have hale : am ≤ nm := by rw [ha1, ha2]; exact HLE.out m hm2
              have e5 : IntKind.i64.wrap ((am : Int) + 1) = (am : Int) + 1 := IntWalk.i64_in _ (by omega)
              have e6 : IntKind.i64.wrap ((nm : Int) + 1) = (nm : Int) + 1 := IntWalk.i64_in _ (by omega)
              have hlv : hlive (rat g i ats) m = decide (am < nm) := by rw [rat_live g i ats m hm2, ← ha1, ← ha2]
              have LT := Lib.hid (lives_take (rat g i ats) m (by rw [rat_len]; exact hm2))
              have HBT := Lib.hid hbt; have HNL := Lib.hid hn; have HBB := Lib.hid hb; have HA1 := Lib.hid ha1; have HLV := Lib.hid hlv; have HA4 := Lib.hid ha4
              clear hbt hn hb hlv ha1 ha2 ha4 hsm hown hpm
              by_cases hl : am < nm
              · have d6 : decide ((am : Int) < (nm : Int)) = true := by rw [decide_eq_true_eq]; omega
                have d7 : decide (am < nm) = true := by rw [decide_eq_true_eq]; exact hl
                obtain ⟨bm, om, xm, rfl, c4, hx4⟩ := HA4.out hl
                have HKm := Lib.hid (rat_key g i ats m hm2 xm (by rw [← HA1.out]; exact hx4))
                have i6 : (am : Int) < (nm : Int) := by omega
                clear hx4
                have hn9 : n ≤ 9 := by have q8 := lives_le ((rat g i ats).take m); rw [List.length_take, ← HNL.out] at q8; omega
                have e7 : IntKind.i64.wrap ((n : Int) + 1) = (n : Int) + 1 := IntWalk.i64_in _ (by omega)
                have HLT : Hid (hlive (rat g i ats) m = true) := Lib.hid (by rw [HLV.out]; exact d7)
                have LV2 := Lib.hid (show n + 1 = lives ((rat g i ats).take (m + 1)) by rw [LT.out, HLT.out, HNL.out]; simp)
                have hz : z = -1 ∨ ∃ b' : Nat, z = (b' : Int) := by
                  rcases HBT.out with ⟨q, _⟩ | ⟨b', q, _⟩
                  · exact Or.inl q
                  · exact Or.inr ⟨b', q⟩
                rcases hz with rfl | ⟨b', rfl⟩
                · have BS := Lib.hid (HBT.out.first HLT.out)
                  have d8 : decide ((-1 : Int) < 0) = true := by decide
                  go_wp2_with fail
                  go_quiet (fail)
                  go_wp2_with fail
                  go_quiet (fail)
                  go_wp2_with fail
                  go_quiet (fail)
                  go_wp2_with fail
                  go_roundw
                  case rel => exact ⟨m + 1, (m : Int), n + 1, by omega, by go_num, rfl, by go_num, BS.out, LV2.out, by first | exact bstep HBB.out (belowN _ _) | exact bstep (bstep HBB.out (belowN _ _)) (belowN _ _) | exact bstep (bstep (bstep HBB.out (belowN _ _)) (belowN _ _)) (belowN _ _)⟩
                  case measure => simp [intOf]; omega
                · obtain ⟨hbm, hbl⟩ := HBT.out.lt
                  have hbi : b' < i := by omega
                  obtain ⟨b2, o2, ab, nb, cb, Ab, hA2, c5, c6, _, hb1, hb2, hb3, hb4⟩ := pl_facts GIm.out ATm.out HAL.out hbi
                  injection hA2 with hA2
                  injection hA2 with hA2 hA3
                  subst hA2 hA3
                  have hlab : ab < nb := by
                    rw [rat_live g i ats b' hbi, ← hb1, ← hb2] at hbl
                    simpa using hbl
                  obtain ⟨bb, ob, xb, rfl, c7, hx7⟩ := hb4 hlab
                  have HKb := Lib.hid (rat_key g i ats b' hbi xb (by rw [← hb1]; exact hx7))
                  have i7 : (b' : Int) < (i : Int) := by omega
                  have i8 : (ab : Int) < (nb : Int) := by omega
                  have d9 : decide ((b' : Int) < 0) = false := by rw [decide_eq_false_iff_not]; omega
                  clear hb1 hb2 hx7 hbl
                  by_cases hx : xm < xb
                  · have d8 : decide (xm < xb) = true := by rw [decide_eq_true_eq]; exact hx
                    have BS := Lib.hid (HBT.out.less HLT.out (by rw [HKm.out, HKb.out]; exact hx))
                    go_wp2_with fail
                    go_quiet (fail)
                    go_wp2_with fail
                    go_quiet (fail)
                    go_wp2_with fail
                    go_quiet (fail)
                    go_wp2_with fail
                    go_roundw
                    case rel => exact ⟨m + 1, (m : Int), n + 1, by omega, by go_num, rfl, by go_num, BS.out, LV2.out, by first | exact bstep HBB.out (belowN _ _) | exact bstep (bstep HBB.out (belowN _ _)) (belowN _ _) | exact bstep (bstep (bstep HBB.out (belowN _ _)) (belowN _ _)) (belowN _ _)⟩
                    case measure => simp [intOf]; omega
                  · have d8 : decide (xm < xb) = false := by rw [decide_eq_false_iff_not]; exact hx
                    have BS := Lib.hid (HBT.out.more (by rw [HKm.out, HKb.out]; exact hx))
                    go_wp2_with fail
                    go_quiet (fail)
                    go_wp2_with fail
                    go_quiet (fail)
                    go_wp2_with fail
                    go_quiet (fail)
                    go_wp2_with fail
                    go_roundw
                    case rel => exact ⟨m + 1, (b' : Int), n + 1, by omega, by go_num, rfl, by go_num, BS.out, LV2.out, by first | exact bstep HBB.out (belowN _ _) | exact bstep (bstep HBB.out (belowN _ _)) (belowN _ _) | exact bstep (bstep (bstep HBB.out (belowN _ _)) (belowN _ _)) (belowN _ _)⟩
                    case measure => simp [intOf]; omega
              · have d6 : decide ((am : Int) < (nm : Int)) = false := by rw [decide_eq_false_iff_not]; omega
                have d7 : decide (am < nm) = false := by rw [decide_eq_false_iff_not]; exact hl
                have BS := Lib.hid (HBT.out.dead (by rw [HLV.out]; exact d7))
                have LV2 := Lib.hid (show n = lives ((rat g i ats).take (m + 1)) by rw [LT.out, HLV.out, d7, HNL.out]; simp)
                go_wp2_with fail
                go_quiet (fail)
                go_wp2_with fail
                go_quiet (fail)
                go_wp2_with fail
                go_roundw
                case rel => exact ⟨m + 1, z, n, by omega, by go_num, rfl, rfl, BS.out, LV2.out, by first | exact bstep HBB.out (belowN _ _) | exact bstep (bstep HBB.out (belowN _ _)) (belowN _ _)⟩
                case measure => simp [intOf]; omega
            · obtain rfl : m = i := by omega
              have d5 : decide ((m : Int) < (m : Int)) = false := by rw [decide_eq_false_iff_not]; omega
              have htake : (rat g m ats).take m = rat g m ats := List.take_of_length_le (by rw [rat_len]; exact Nat.le_refl _)
              rw [htake] at hn
              have TTm := Lib.hid (TT.out.below hb)
              have LV := Lib.hid (live_any wr Bn F b ss ps q N _ (TT.out.below hb))
              rw [← hn] at LV
              have BWm := Lib.hid (BWk.out.trans (hb.mono BWk.out.size))
              have ATm := Lib.hid (Arr.below AT.out hb)
              have HBT := Lib.hid hbt; have HNL := Lib.hid hn
              clear hbt hn hb htake
              go_wp2_with fail
              refine LV.out.mono ?_
              rintro e w3 ⟨rfl, rfl⟩
              clear LV
              have hz : z = -1 ∨ ∃ b' : Nat, z = (b' : Int) := by
                rcases HBT.out with ⟨q9, _⟩ | ⟨b', q9, _⟩
                · exact Or.inl q9
                · exact Or.inr ⟨b', q9⟩
              rcases hz with rfl | ⟨b', rfl⟩
              · have hl0 : lives (rat g m ats) = 0 := by
                  rcases HBT.out with ⟨_, q9⟩ | ⟨b', q9, _⟩
                  · exact lives_dead (fun j hj => q9 j (by rw [rat_len] at hj; exact hj))
                  · omega
                have NX := Lib.hid (next_none wr Bn F b ss ps q N _ TTm.out hl0)
                have d8 : decide ((-1 : Int) < 0) = true := by decide
                clear hl0
                go_wp2_with fail
                refine NX.out.mono ?_
                rintro e w4 ⟨rfl, b4⟩
                have RU := Lib.hid (lruns_any w4)
                have BW4 := Lib.hid (BWm.out.trans (b4.mono BWm.out.size))
                clear b4 NX
                go_wp2_with fail
                refine RU.out.mono ?_
                rintro e w5 ⟨rfl, b5⟩
                have BW5' := Lib.hid (BW4.out.trans (b5.mono BW4.out.size))
                clear b5
                go_wp2_with fail
                go_ret
                exact ⟨rfl, BW5'.out⟩
              · obtain ⟨hbm, hbl⟩ := HBT.out.lt
                have hln : lives (rat g m ats) ≠ 0 := fun e9 => by rw [lives_zero e9 b'] at hbl; cases hbl
                have NX := Lib.hid (next_some wr Bn F b ss ps q N _ TTm.out hln (by have := HNN.out; omega))
                have HBL := Lib.hid hbl
                clear hbl hln
                go_wp2_with fail
                refine NX.out.mono ?_
                rintro e w4 ⟨i', x, u, s, p, k1, k2, k3, k4, rfl, F', t1, t2, t3⟩
                have hbest : Best (hkey (rat g m ats)) (hlive (rat g m ats)) (rat g m ats).length b' := by
                  rcases HBT.out with ⟨q9, _⟩ | ⟨b'', q9, q8⟩
                  · omega
                  · obtain rfl : b' = b'' := by omega
                    rw [rat_len]; exact q8
                obtain rfl := k1.one hbest
                have hWF : ∀ y, (F y ∨ Wr ss y) → y = B ∨ B + 2 ≤ y := fun y hy => by
                  rcases hy with e | e
                  · have := TTm.out.up y e; omega
                  · exact WB.out y e
                have BW4 := Lib.hid (show Below w.heap.size w w4 from Keep.below t2 (fun y hy => by rw [HB.out]; rcases hWF y hy with e | e <;> omega) BWm.out BWm.out.size)
                have GI4 := Lib.hid (GI.out.below BW4.out)
                have AT4 := Lib.hid (Arr.same ATm.out (t2.block (B + 1) (Arr.lt ATm.out) (fun e => by have := hWF _ e; omega)))
                obtain ⟨b1, o1, ab, nb, cb, Ab, rfl, c1, c2, f2, hb1, hb2, hb3, hb4⟩ := pl_facts GI4.out AT4.out HAL.out hbm
                have hlab : ab < nb := by
                  have := HBL.out
                  rw [rat_live g m ats i' hbm, ← hb1, ← hb2] at this
                  simpa using this
                obtain ⟨bb, ob, xb, rfl, c7, hx7⟩ := hb4 hlab
                have hkx : hkey (rat g m ats) i' = x := by unfold hkey; rw [List.getD_eq_getElem?_getD, k2]; rfl
                have hkb := rat_key g m ats i' hbm xb (by rw [← hb1]; exact hx7)
                obtain rfl : x = xb := by rw [← hkx, hkb]
                have i7 : (i' : Int) < (m : Int) := by omega
                have i8 : (ab : Int) < (nb : Int) := by omega
                have d9 : decide ((i' : Int) < 0) = false := by rw [decide_eq_false_iff_not]; omega
                have e5 : IntKind.i64.wrap ((ab : Int) + 1) = (ab : Int) + 1 := IntWalk.i64_in _ (by omega)
                have hset := rat_set g m ats i' hbm HAL.out x u k2
                rw [← hb1] at hset
                rw [hset] at t1
                have T1 := Lib.hid t1
                have hown := HP.out.own i' s k3
                have hq2 : ∀ j, j < m → up q s.pg s.po B j = ((min ((ats.set i' (ab + 1)).getD j 0 + 1) ((g j).2.2.length + 1) : Nat) : Int) := fun j hj => by
                  unfold up
                  rw [hown.1, hown.2.1, HQ.out j hj, List.getD_eq_getElem?_getD (l := ats.set i' _), List.getElem?_set]
                  by_cases e : i' = j
                  · subst e
                    rw [if_pos ⟨rfl, rfl⟩, if_pos rfl, if_pos (by have := HAL.out; omega), ← hb1, ← hb2]
                    show ((min (ab + 1) (nb + 1) : Nat) : Int) + 1 = ((min (ab + 1 + 1) (nb + 1) : Nat) : Int)
                    omega
                  · rw [if_neg (fun q9 => e q9.2.symm), if_neg e, ← List.getD_eq_getElem?_getD]
                have hle2 : ∀ j, j < m → (ats.set i' (ab + 1)).getD j 0 ≤ (g j).2.2.length := fun j hj => by
                  rw [List.getD_eq_getElem?_getD (l := ats.set i' _), List.getElem?_set]
                  by_cases e : i' = j
                  · subst e
                    rw [if_pos rfl, if_pos (by have := HAL.out; omega), ← hb2]
                    show ab + 1 ≤ nb
                    omega
                  · rw [if_neg e, ← List.getD_eq_getElem?_getD]
                    exact HLE.out j hj
                have HQ2 := Lib.hid hq2; have HLE2 := Lib.hid hle2
                have T3 := Lib.hid t3
                clear t1 t2 t3 k1 k2 k3 k4 hset hkx hkb hx7 hb1 hb2 hb4 hbest hWF hq2 hle2 hown NX
                go_wp2_with fail
                go_quiet (fail)
                have g2 : (w4.drewN nq).cell? ⟨B + 1, i', none⟩ = some (.int .i64 (ab : Int)) := c2
                have gf2 : (w4.drewN nq).frozen? ⟨B + 1, i', none⟩ = false := f2
                have B5 := Lib.hid (belowN w4 nq)
                generalize w4.drewN nq = w5 at *
                have AT5' := Lib.hid (Arr.below AT4.out B5.out)
                have T5 := Lib.hid (T1.out.below B5.out)
                have BW5' := Lib.hid (BW4.out.trans (B5.out.mono BW4.out.size))
                have KS : Hid (Keep (· = B + 1) w5 (w5.setCell ⟨B + 1, i', none⟩ (.int .i64 ((ab : Int) + 1)))) := Lib.hid ⟨rfl, rfl, rfl, by simp [World.setCell], fun y _ hn => heap_setCell_other w5 _ y _ hn⟩
                have AT6 : Hid (Arr (w5.setCell ⟨B + 1, i', none⟩ (.int .i64 ((ab : Int) + 1))) (B + 1) 3 (ivals (ats.set i' (ab + 1)))) := Lib.hid (by
                  have q9 := Arr.set AT5'.out i' (.int .i64 ((ab : Int) + 1))
                  have e9 : ivals (ats.set i' (ab + 1)) = (ivals ats).set i' (.int .i64 ((ab : Int) + 1)) := by unfold ivals; rw [List.map_set]; rfl
                  rw [e9]; exact q9)
                have nSB : ∀ y, SB ss y → y ≠ B + 1 := fun y ⟨j, s', hj, e⟩ => by
                  have q9 := HP.out.own j s' hj
                  have q8 := HS1.out
                  rcases e with e | e | e | e | ⟨a, ha, e⟩
                  · omega
                  · omega
                  · omega
                  · omega
                  · have := q9.2.2.2.2.2.2 a ha; omega
                have T6 := Lib.hid (T5.out.keep2 KS.out (fun y hy e => by have := T5.out.up y hy; omega) (fun y hy e => nSB y hy e))
                have BW6 := Lib.hid (show Below w.heap.size w (w5.setCell ⟨B + 1, i', none⟩ (.int .i64 ((ab : Int) + 1))) from Keep.below KS.out (fun y e => by rw [HB.out]; omega) BW5'.out BW5'.out.size)
                clear nSB
                go_wp2_with fail
                go_roundw
                case rel => exact ⟨k + 1, ats.set i' (ab + 1), _, F', _, N + 1, by go_num, by omega, by rw [List.length_set]; exact HAL.out, HLE2.out, AT6.out, T6.out, by have := HNN.out; omega, HQ2.out, BW6.out⟩
                case measure => simp [intOf]; omega
        · have d2 : decide ((k : Int) < (T : Int) + 1) = false := by rw [decide_eq_false_iff_not]; omega
          have d3 : decide (k < T + 1) = false := by rw [decide_eq_false_iff_not]; exact hlt2
          have RU := Lib.hid (lruns_any wr)
          have BWk := Lib.hid hbw
          clear hat htr hq hbw hle hal hN
          go_wp2_with fail
          refine RU.out.mono ?_
          rintro e w5 ⟨rfl, b5⟩
          have BW5' := Lib.hid (BWk.out.trans (b5.mono BWk.out.size))
          clear b5
          go_wp2_with fail
          go_ret
          exact ⟨rfl, BW5'.out⟩
end Go.Proofs.Ytimfmflnaehmgaa
