/-
  Rows of ints of the call's own: one more, sorted (at most twelve), searched; slices.Clone at ints and at files.
-/
import Derived.Test.YtjiigbmfbmkhjaaCSb
import Derived.Test.YtjiigbmfbmkhjaaRowC
import Derived.Test.YtjiigbmfbmkhjaaWLen
import Derived.Test.YtjiigbmfbmkhjaaWNum
import Derived.Deep.DeepCutAuto
namespace Go.Proofs.Ytjiigbmfbmkhjaa
set_option linter.unusedVariables false
set_option linter.unusedSimpArgs false
set_option maxRecDepth 100000
open Go.RowKit

def iAt (l : List Int) (i : Nat) : Int := l.getD i 0
def keyI (x : Int) : Int := x
theorem iAt_app_right (P S : List Int) (j : Nat) : iAt (P ++ S) (P.length + j) = iAt S j := by
  unfold iAt
  rw [List.getD_eq_getElem?_getD, List.getElem?_append_right (by omega), Nat.add_sub_cancel_left, List.getD_eq_getElem?_getD]
theorem iAt_mid (P S : List Int) (x : Int) (j : Nat) (h : P.length = j) : iAt (P ++ x :: S) j = x := by
  subst h
  exact iAt_app_right P (x :: S) 0
/-- What holds at the inner loop's head: x has come to place j, ahead of S; P and S are the sorted front. -/
structure MidI (L R : List Int) (x : Int) (j : Nat) (d : List Int) : Prop where
  mk' ::
  ex : ∃ P S, d = P ++ x :: (S ++ R) ∧ P.length = j ∧ P ++ S = L ∧ ∀ z, z ∈ S → x < z
theorem MidI.start (L R : List Int) (x : Int) : MidI L R x L.length (L ++ x :: R) := ⟨L, [], rfl, rfl, List.append_nil _, fun z hz => by cases hz⟩
theorem MidI.at {L R : List Int} {x : Int} {j : Nat} {d : List Int} (h : MidI L R x j d) : iAt d j = x := by
  obtain ⟨P, S, rfl, hP, _, _⟩ := h
  exact iAt_mid P _ x j hP
theorem MidI.down {L R : List Int} {x : Int} {j : Nat} {d : List Int} (h : MidI L R x (j + 1) d) (hlt : x < iAt d j) : MidI L R x j ((d.set (j + 1) (iAt d j)).set j x) := by
  obtain ⟨P, S, rfl, hP, hL, hS⟩ := h
  rcases List.eq_nil_or_concat P with e | ⟨P', p, e⟩
  · rw [e] at hP; cases hP
  · rw [List.concat_eq_append] at e
    subst e
    rw [List.length_append] at hP
    have hP : P'.length = j := by simpa using hP
    have hd : P' ++ [p] ++ x :: (S ++ R) = P' ++ p :: x :: (S ++ R) := by simp
    have hp : iAt (P' ++ [p] ++ x :: (S ++ R)) j = p := by rw [hd]; exact iAt_mid P' _ p j hP
    rw [hp] at hlt ⊢
    refine ⟨P', p :: S, ?_, hP, by rw [← hL]; simp, fun z hz => ?_⟩
    · rw [hd, ← hP, List.set_append_right _ _ (by omega), List.set_append_right _ _ (by omega)]
      have e1 : P'.length + 1 - P'.length = 1 := by omega
      rw [e1, Nat.sub_self]
      rfl
    · rcases List.mem_cons.1 hz with e | e
      · rw [e]; exact hlt
      · exact hS z e
theorem MidI.stop {L R : List Int} {x : Int} {j : Nat} {d : List Int} (h : MidI L R x j d) (hr : Rise keyI L) (hs : j = 0 ∨ ∃ i, j = i + 1 ∧ ¬ x < iAt d i) : d = ins keyI x L ++ R := by
  obtain ⟨P, S, rfl, hP, hL, hS⟩ := h
  have key : ∀ z, z ∈ P → z ≤ x := by
    rcases hs with e | ⟨i, e, hn⟩
    · rw [e] at hP
      rw [List.eq_nil_of_length_eq_zero hP]
      exact fun z hz => by cases hz
    · rcases List.eq_nil_or_concat P with e' | ⟨P', p, e'⟩
      · rw [e', e] at hP; cases hP
      · rw [List.concat_eq_append] at e'
        subst e'
        rw [List.length_append, e] at hP
        have hP : P'.length = i := by simpa using hP
        have hp : iAt (P' ++ [p] ++ x :: (S ++ R)) i = p := by
          have hd : P' ++ [p] ++ x :: (S ++ R) = P' ++ p :: x :: (S ++ R) := by simp
          rw [hd]; exact iAt_mid P' _ p i hP
        rw [hp] at hn
        rw [← hL] at hr
        exact rise_last keyI hr (by show p ≤ x; omega)
  rw [← hL, ins_at keyI x S hS P key]
  simp
theorem MidI.len {L R : List Int} {x : Int} {j : Nat} {d : List Int} (h : MidI L R x j d) : j ≤ L.length ∧ d.length = L.length + 1 + R.length := by
  obtain ⟨P, S, rfl, hP, hL, hS⟩ := h
  rw [← hL]
  simp
  omega
theorem isortI_take {l : List Int} {i : Nat} (hi : i < l.length) : isort keyI (l.take (i + 1)) = ins keyI (iAt l i) (isort keyI (l.take i)) := by
  rw [← isort_snoc, List.take_succ_eq_append_getElem hi]
  unfold iAt
  rw [List.getD_eq_getElem?_getD, List.getElem?_eq_getElem hi]
  rfl
theorem dropI_at {l : List Int} {i : Nat} (hi : i < l.length) : l.drop i = iAt l i :: l.drop (i + 1) := by
  unfold iAt
  rw [List.getD_eq_getElem?_getD, List.getElem?_eq_getElem hi]; exact List.drop_eq_getElem_cons hi
def ivs (l : List Int) : List Value := l.map (Value.int .i64)
theorem ivs_len (l : List Int) : (ivs l).length = l.length := by unfold ivs; rw [List.length_map]
theorem ivs_at (l : List Int) (k : Nat) (h : k < l.length) : (ivs l)[k]? = some (.int .i64 (iAt l k)) := by
  unfold ivs iAt; rw [List.getElem?_map, List.getElem?_eq_getElem h, List.getD_eq_getElem?_getD, List.getElem?_eq_getElem h]; rfl
theorem ivs_one (l : List Int) (u : Value) (h : u ∈ ivs l) : u.oneCell' = true := by
  unfold ivs at h
  obtain ⟨x, _, rfl⟩ := List.mem_map.1 h
  rfl
theorem iAt_set (l : List Int) (i j : Nat) (x : Int) (hi : i < l.length) : iAt (l.set i x) j = if j = i then x else iAt l j := by
  unfold iAt
  rw [List.getD_eq_getElem?_getD, List.getElem?_set]
  split
  · rename_i h
    subst h
    rw [if_pos rfl]; rfl
  · rename_i h
    rw [if_neg (fun e => h e.symm), List.getD_eq_getElem?_getD]
theorem iAt_snoc (l : List Int) (x : Int) (i : Nat) : iAt (l ++ [x]) i = if i < l.length then iAt l i else if i = l.length then x else 0 := by
  unfold iAt
  rw [List.getD_eq_getElem?_getD, List.getElem?_append]
  split
  · rw [List.getD_eq_getElem?_getD]
  · rename_i h
    split
    · rename_i h2; rw [h2, Nat.sub_self]; rfl
    · rw [List.getElem?_eq_none (by show 1 ≤ _; omega)]; rfl
/-- A slice of ints in a block of the call's own, from its head on (or nil). -/
def OwnI (w : World) (base : Nat) (A : Option Addr) (n cap : Nat) (l : List Int) : Prop :=
  RowN w base 3 1 A n cap (ivs l) ∧ l.length = n ∧ ∀ i, i < n → I64x (iAt l i)
theorem OwnI.nil (w : World) (base : Nat) : OwnI w base none 0 0 [] := ⟨RowN.nil _ _ _ _, rfl, fun i hi => absurd hi (by simp)⟩
theorem OwnI.same {w w' : World} {base : Nat} {A : Option Addr} {n cap : Nat} {l : List Int} (h : OwnI w base A n cap l) (k : ∀ a, A = some a → w'.heap[a.block]? = w.heap[a.block]?) : OwnI w' base A n cap l := ⟨h.1.same k, h.2⟩
theorem OwnI.below {w w' : World} {base : Nat} {A : Option Addr} {n cap : Nat} {l : List Int} (h : OwnI w base A n cap l) (b : Below w.heap.size w w') : OwnI w' base A n cap l := ⟨h.1.below b, h.2⟩
theorem OwnI.drew {w : World} {base : Nat} {A : Option Addr} {n cap : Nat} {l : List Int} (h : OwnI w base A n cap l) : OwnI w.drew base A n cap l := h.below (Below.refl _ _).drew
theorem OwnI.lt {w : World} {base : Nat} {A : Option Addr} {n cap : Nat} {l : List Int} (h : OwnI w base A n cap l) (a : Addr) (ha : A = some a) : base ≤ a.block ∧ a.block < w.heap.size := h.1.lt a ha
theorem OwnI.cell {w : World} {base g n cap : Nat} {l : List Int} (h : OwnI w base (some ⟨g, 0, none⟩) n cap l) (i : Nat) (hi : i < n) : w.cell? ⟨g, i, none⟩ = some (.int .i64 (iAt l i)) := by
  obtain ⟨g', e, h1⟩ := h.1.at (by omega)
  injection e with e
  injection e with e
  subst e
  rw [(h1 i).2 (by omega)]
  exact ivs_at l i (by rw [h.2.1]; exact hi)
theorem OwnI.frozen {w : World} {base g n cap : Nat} {l : List Int} (h : OwnI w base (some ⟨g, 0, none⟩) n cap l) (hn : 0 < n) (k : Nat) : w.frozen? ⟨g, k, none⟩ = false := by
  obtain ⟨g', e, h1⟩ := h.1.at hn
  injection e with e
  injection e with e
  subst e
  exact (h1 k).1
theorem OwnI.set {w : World} {base g n cap : Nat} {l : List Int} (h : OwnI w base (some ⟨g, 0, none⟩) n cap l) (i : Nat) (hi : i < n) (x : Int) (hx : I64x x) : OwnI (w.setCell ⟨g, i, none⟩ (.int .i64 x)) base (some ⟨g, 0, none⟩) n cap (l.set i x) := by
  have hl := h.2.1
  refine ⟨?_, by rw [List.length_set]; exact hl, fun j hj => ?_⟩
  · have e : ivs (l.set i x) = (ivs l).set i (.int .i64 x) := by unfold ivs; rw [List.map_set]
    rw [e]; exact h.1.set _ _
  · rw [iAt_set l i j x (by omega)]
    split
    · exact hx
    · exact h.2.2 j hj
theorem lessI_any (x y : Int) (w : World) (hx : I64x x) (hy : I64x y) :
    Calls Try.prog 48 #[.int .i64 x, .int .i64 y] w fun e w' => e = .returned (.bool (decide (x < y))) ∧ w' = w := by
  obtain ⟨x0, x1⟩ := hx; obtain ⟨y0, y1⟩ := hy
  obtain ⟨q, hq⟩ : ∃ q, decide (x < y) = q := ⟨_, rfl⟩
  rw [hq]
  go_enter Try.func48, Try.ntmps48
  go_wp2
  go_ret
  exact ⟨rfl, rfl⟩
set_option maxHeartbeats 4000000 in
theorem insI_any (l : List Int) (base g n cap : Nat) (w : World) (hn : n ≤ 1000) (h : OwnI w base (some ⟨g, 0, none⟩) n cap l) :
    Calls Try.prog 57 #[.slice (some ⟨g, 0, none⟩) n cap, .int .i64 0, .int .i64 n] w fun e w' => e = .returned (.tuple #[]) ∧ OwnI w' base (some ⟨g, 0, none⟩) n cap (isort keyI l) ∧ Keep (· = g) w w' := by
  have H := Lib.hid h
  have HL := Lib.hid h.2.1
  clear h
  go_enter Try.func57, Try.ntmps57
  go_wp2
  go_loopw [6, 7] (fun iv _ wr => ∃ i : Nat, 1 ≤ i ∧ i ≤ n + 1 ∧ iv = .int .i64 i ∧ OwnI wr base (some ⟨g, 0, none⟩) n cap (isort keyI (l.take i) ++ l.drop i) ∧ Keep (· = g) w wr) (fun iv _ _ => n + 1 - (intOf iv).toNat)
  case atStart =>
    refine ⟨1, by omega, by omega, rfl, ?_, Keep.refl _ _⟩
    have e : isort keyI (l.take 1) ++ l.drop 1 = l := by
      cases l with
      | nil => rfl
      | cons x r => rfl
    rw [e]; exact H.out
  case round =>
    obtain ⟨i, hi1, hi, rfl, ow, kp⟩ := hrel
    have KP := Lib.hid kp
    clear kp
    by_cases hlt : i < n
    · have i1 : decide ((i : Int) < (n : Int)) = true := by rw [decide_eq_true_eq]; omega
      have HX := Lib.hid (isortI_take (l := l) (i := i) (by rw [HL.out]; exact hlt))
      rw [dropI_at (by rw [HL.out]; exact hlt)] at ow
      have LL : Hid ((isort keyI (l.take i)).length = i) := Lib.hid (by rw [isort_length, List.length_take, HL.out]; omega)
      have RS := Lib.hid (isort_rise keyI (l.take i))
      have RL : Hid ((l.drop (i + 1)).length = n - (i + 1)) := Lib.hid (by rw [List.length_drop, HL.out])
      obtain ⟨L, hL⟩ : ∃ L, isort keyI (l.take i) = L := ⟨_, rfl⟩
      obtain ⟨x, hx⟩ : ∃ x, iAt l i = x := ⟨_, rfl⟩
      obtain ⟨R, hR⟩ : ∃ R, l.drop (i + 1) = R := ⟨_, rfl⟩
      rw [hL] at ow LL RS; rw [hx, hR] at ow; rw [hL, hx] at HX; rw [hR] at RL
      have HR := Lib.hid hR
      have OW := Lib.hid ow
      clear hL hx hR ow
      go_wp2
      go_loopw [7] (fun jv wr => ∃ (j : Nat) (d : List Int), jv = .int .i64 j ∧ MidI L R x j d ∧ OwnI wr base (some ⟨g, 0, none⟩) n cap d ∧ Keep (· = g) w wr) (fun jv _ => (intOf jv).toNat)
      case atStart => exact ⟨i, L ++ x :: R, rfl, by have := MidI.start L R x; rw [LL.out] at this; exact this, OW.out, KP.out⟩
      case round =>
        obtain ⟨j, d, rfl, md, ow, kp⟩ := hrel
        have ML := md.len
        rw [LL.out, RL.out] at ML
        have MD := Lib.hid md; have OJ := Lib.hid ow; have KJ := Lib.hid kp
        have hgn : 0 < n := by omega
        have hgs := (ow.lt _ rfl).2
        clear md ow kp
        have STOP : Hid ((j = 0 ∨ ∃ i, j = i + 1 ∧ ¬ x < iAt d i) → d = isort keyI (l.take (i + 1)) ++ l.drop (i + 1)) := Lib.hid (fun h => by rw [HX.out, HR.out]; exact MD.out.stop RS.out h)
        cases j with
        | zero =>
          have j1 : decide ((0 : Int) > 0) = false := by decide
          go_wp2
          go_quiet (fail)
          go_wp2
          go_roundw
          case rel =>
            refine ⟨i + 1, by omega, by omega, by go_num, ?_, ?_⟩
            · rw [← STOP.out (Or.inl (by simp))]; exact OJ.out.same (fun a ha => rfl)
            · exact KJ.out.drewN _
          case measure => simp [intOf]; omega
        | succ m =>
          have j1 : decide (((m : Int) + 1) > 0) = true := by rw [decide_eq_true_eq]; omega
          have j2 : decide ((0 : Int) < ((m : Int) + 1)) = true := by rw [decide_eq_true_eq]; omega
          have j3 : (0 : Int) < ((m : Int) + 1) := by omega
          have x0 := OJ.out.cell (m + 1) (by omega)
          have xok := OJ.out.2.2 (m + 1) (by omega)
          rw [MD.out.at] at x0 xok
          have p0 := OJ.out.cell m (by omega)
          have pok := OJ.out.2.2 m (by omega)
          obtain ⟨p, hp⟩ : ∃ p, iAt d m = p := ⟨_, rfl⟩
          rw [hp] at p0 pok
          have HP := Lib.hid hp
          have XOK := Lib.hid xok; have POK := Lib.hid pok
          have mw : IntKind.i64.wrap (m : Int) = m := IntWalk.i64_in _ (by omega)
          obtain ⟨q, hq⟩ : ∃ q, decide (x < p) = q := ⟨_, rfl⟩
          have LE : Hid (∀ w0, Calls Try.prog 48 #[.int .i64 x, .int .i64 p] w0 fun e w' => e = .returned (.bool q) ∧ w' = w0) := Lib.hid (fun w0 => by have := lessI_any x p w0 xok pok; rw [hq] at this; exact this)
          have HQ := Lib.hid hq
          have fz := OwnI.frozen OJ.out hgn
          have b1 : (m : Int) + 1 < (n : Int) := by omega
          have b2 : m + 1 < n := by omega
          have b3 : (m : Int) < (n : Int) := by omega
          have b4 : m < n := by omega
          have b5 : (0 : Int) ≤ (m : Int) + 1 := by omega
          clear hp xok pok hq
          go_wp2
          go_quiet (first | (go_at_call 48; refine Calls.quiet_of_same (LE.out _)))
          cases q
          · go_wp2
            go_roundw
            case rel =>
              refine ⟨i + 1, by omega, by omega, by go_num, ?_, KJ.out.drewN _⟩
              rw [← STOP.out (Or.inr ⟨m, rfl, by rw [HP.out]; simpa using HQ.out⟩)]; exact OJ.out.same (fun a ha => rfl)
            case measure => simp [intOf]; omega
          · go_upto_region 6 with fail
            go_region
            go_wp2
            go_roundw
            case rel =>
              refine ⟨m, (d.set (m + 1) p).set m x, by congr 1, ?_, ?_, ?_⟩
              · have := MD.out.down (by rw [HP.out]; simpa using HQ.out)
                rw [HP.out] at this
                exact this
              · have o1 := (OJ.out.set (m + 1) (by omega) p POK.out).set m (by omega) x XOK.out
                exact o1.same (fun a ha => rfl)
              · exact ((KJ.out.drewN _).step (keep_set rfl)).step (keep_set rfl)
            case measure => simp [intOf]
    · have i1 : decide ((i : Int) < (n : Int)) = false := by rw [decide_eq_false_iff_not]; omega
      have E : Hid (isort keyI (l.take i) ++ l.drop i = isort keyI l) := Lib.hid (by rw [List.take_of_length_le (by rw [HL.out]; omega), List.drop_eq_nil_of_le (by rw [HL.out]; omega), List.append_nil])
      go_wp2
      go_end0
      exact ⟨rfl, by rw [← E.out]; exact ow, KP.out⟩
theorem insI_none (A : Option Addr) (cap : Nat) (w : World) :
    Calls Try.prog 57 #[.slice A 0 cap, .int .i64 0, .int .i64 0] w fun e w' => e = .returned (.tuple #[]) ∧ w = w' := by
  go_enter Try.func57, Try.ntmps57
  go_wp2
  go_loopw [6, 7] (fun iv _ wr => iv = .int .i64 1 ∧ w = wr) (fun _ _ _ => 0)
  case atStart => exact ⟨rfl, rfl⟩
  case round =>
    obtain ⟨rfl, rfl⟩ := hrel
    go_wp2
    go_end0
    exact ⟨rfl, rfl⟩
theorem insI_whole (l : List Int) (base : Nat) (A : Option Addr) (n cap : Nat) (w : World) (hn : n ≤ 1000) (h : OwnI w base A n cap l) :
    Calls Try.prog 57 #[.slice A n cap, .int .i64 0, .int .i64 n] w fun e w' => e = .returned (.tuple #[]) ∧ OwnI w' base A n cap (isort keyI l) ∧ Keep (blockOf A) w w' := by
  rcases Nat.eq_zero_or_pos n with h0 | h0
  · subst h0
    refine (insI_none A cap w).mono ?_
    rintro e w' ⟨rfl, rfl⟩
    have : l = [] := List.eq_nil_of_length_eq_zero h.2.1
    subst this
    exact ⟨rfl, h, Keep.refl _ _⟩
  · obtain ⟨g, rfl, _⟩ := h.1.at h0
    refine (insI_any l base g n cap w hn h).mono ?_
    rintro e w' ⟨rfl, h1, h2⟩
    exact ⟨rfl, h1, h2.os, h2.tape, h2.output, h2.size, fun k hk hn => h2.block k hk (fun e => hn ⟨_, rfl, e⟩)⟩
set_option maxHeartbeats 4000000 in
theorem pdq_any (l : List Int) (base : Nat) (A : Option Addr) (n cap : Nat) (lim : Int) (w : World) (hn : n ≤ 12) (h : OwnI w base A n cap l) :
    Calls Try.prog 46 #[.slice A n cap, .int .i64 0, .int .i64 n, .int .i64 lim] w fun e w' => e = .returned (.tuple #[]) ∧ OwnI w' base A n cap (isort keyI l) ∧ Keep (blockOf A) w w' := by
  have IW := Lib.hid (insI_whole l base A n cap w (by omega) h)
  have nw : IntKind.i64.wrap (n : Int) = n := IntWalk.i64_in _ (by omega)
  have q1 : decide ((n : Int) ≤ 12) = true := by rw [decide_eq_true_eq]; omega
  clear h
  go_enter Try.func46, Try.ntmps46
  go_wp2
  go_loopw [1, 2, 3] (fun av bv _ wr => av = .int .i64 0 ∧ bv = .int .i64 n ∧ w = wr) (fun _ _ _ _ => 0)
  case atStart => exact ⟨rfl, rfl, rfl⟩
  case round =>
    obtain ⟨rfl, rfl, rfl⟩ := hrel
    go_upto_if 3 with fail
    go_wp2_with fail
    refine IW.out.mono ?_
    rintro e w2 ⟨rfl, o2, k2⟩
    have O2 := Lib.hid o2; have K2 := Lib.hid k2
    clear o2 k2 IW
    go_wp2
    (try simp only [Exit.inBlock, Exit.then])
    refine bodyPost_ret (results_none rfl _ _ _) rfl ?_
    exact ⟨rfl, O2.out, K2.out⟩
theorem lenI_any (x : Int) (w : World) (h0 : 0 ≤ x) (h1 : x ≤ 18446744073709551615) :
    Calls Try.prog 47 #[.int .u64 x] w fun e w' => e = .returned (.int .i64 (Lib.bitLen x.toNat)) ∧ w = w' := by
  have LN := Lib.hid (fun w0 => len64 x w0 h0 h1)
  go_enter Try.func47, Try.ntmps47
  go_wp2_with fail
  refine (LN.out _).mono ?_
  rintro e w2 ⟨rfl, rfl⟩
  go_wp2
  go_ret
  exact ⟨rfl, rfl⟩
theorem sortI_any (l : List Int) (base : Nat) (A : Option Addr) (n cap : Nat) (w : World) (hn : n ≤ 12) (h : OwnI w base A n cap l) :
    Calls Try.prog 29 #[.slice A n cap] w fun e w' => e = .returned (.tuple #[]) ∧ OwnI w' base A n cap (isort keyI l) ∧ Keep (blockOf A) w w' := by
  have LN := Lib.hid (fun w0 => lenI_any (n : Int) w0 (by omega) (by omega))
  have PQ := Lib.hid (fun lim => pdq_any l base A n cap lim w hn h)
  have nw : IntKind.u64.wrap (n : Int) = n := IntWalk.u64_in _ (by omega)
  clear h
  go_enter Try.func29, Try.ntmps29
  go_wp2_with fail
  refine (LN.out _).mono ?_
  rintro e w2 ⟨rfl, rfl⟩
  go_wp2_with fail
  refine (PQ.out _).mono ?_
  rintro e w2 ⟨rfl, o2, k2⟩
  have O2 := Lib.hid o2; have K2 := Lib.hid k2
  clear o2 k2 PQ
  go_wp2
  go_end0
  exact ⟨rfl, O2.out, K2.out⟩
theorem iAt_mem {l : List Int} {i : Nat} (hi : i < l.length) : iAt l i ∈ l := by
  unfold iAt
  rw [List.getD_eq_getElem?_getD, List.getElem?_eq_getElem hi]
  exact List.getElem_mem hi
theorem mem_iAt {l : List Int} {z : Int} (h : z ∈ l) : ∃ i, i < l.length ∧ iAt l i = z := by
  obtain ⟨i, hi, e⟩ := List.mem_iff_getElem.1 h
  refine ⟨i, hi, ?_⟩
  unfold iAt
  rw [List.getD_eq_getElem?_getD, List.getElem?_eq_getElem hi]
  exact e
theorem rise_iAt {l : List Int} (h : Rise keyI l) {a b : Nat} (hab : a ≤ b) (hb : b < l.length) : iAt l a ≤ iAt l b := by
  rcases Nat.lt_or_ge a b with e | e
  · have := List.pairwise_iff_getElem.1 h a b (by omega) hb e
    unfold iAt
    rw [List.getD_eq_getElem?_getD, List.getElem?_eq_getElem (by omega), List.getD_eq_getElem?_getD, List.getElem?_eq_getElem hb]
    exact this
  · obtain rfl : a = b := by omega
    exact Int.le_refl _
set_option maxHeartbeats 2000000 in
theorem searchI_any (l : List Int) (base : Nat) (A : Option Addr) (n cap : Nat) (t : Int) (w : World) (hn : n ≤ 1000) (ht : I64x t) (h : OwnI w base A n cap l) (hs : Rise keyI l) :
    Calls Try.prog 30 #[.slice A n cap, .int .i64 t] w fun e w' => (∃ i : Int, e = .returned (.tuple #[.int .i64 i, .bool (decide (t ∈ l))])) ∧ w = w' := by
  have H := Lib.hid h; have HS := Lib.hid hs; have HL := Lib.hid h.2.1
  obtain ⟨t0, t1⟩ := id ht
  have HT := Lib.hid ht
  clear h hs ht
  go_enter Try.func30, Try.ntmps30
  go_wp2
  go_loopw [7, 8, 9] (fun iv jv _ wr => ∃ i j : Nat, i ≤ j ∧ j ≤ n ∧ iv = .int .i64 i ∧ jv = .int .i64 j ∧ (∀ k, k < i → iAt l k < t) ∧ (∀ k, j ≤ k → k < n → t ≤ iAt l k) ∧ w = wr) (fun iv jv _ _ => (intOf jv).toNat - (intOf iv).toNat)
  case atStart => exact ⟨0, n, by omega, by omega, rfl, rfl, fun k hk => by omega, fun k h1 h2 => by omega, rfl⟩
  case round =>
    obtain ⟨i, j, hij, hjn, rfl, rfl, hlo, hhi, rfl⟩ := hrel
    have LO := Lib.hid hlo; have HI := Lib.hid hhi
    clear hlo hhi
    by_cases hlt : i < j
    · have i1 : decide ((i : Int) < (j : Int)) = true := by rw [decide_eq_true_eq]; omega
      obtain ⟨g, rfl, hgx⟩ := H.out.1.at (by omega)
      clear hgx
      obtain ⟨m, hm⟩ : ∃ m, m = (i + j) / 2 := ⟨_, rfl⟩
      have m0 : i ≤ m := by omega
      have m1 : m < j := by omega
      have c0 := H.out.cell m (by omega)
      have cok := H.out.2.2 m (by omega)
      have LE := Lib.hid (lessI_any (iAt l m) t w cok HT.out)
      have aw : IntKind.i64.wrap ((i : Int) + (j : Int)) = (i : Int) + j := IntWalk.i64_in _ (by omega)
      have uw : IntKind.u64.wrap ((i : Int) + (j : Int)) = (i : Int) + j := IntWalk.u64_in _ (by omega)
      have sh : ((i : Int) + (j : Int)) / 2 = (m : Int) := by omega
      have mw : IntKind.i64.wrap (m : Int) = m := IntWalk.i64_in _ (by omega)
      have muw : IntKind.u64.wrap (m : Int) = m := IntWalk.u64_in _ (by omega)
      have mw1 : IntKind.i64.wrap ((m : Int) + 1) = (m : Int) + 1 := IntWalk.i64_in _ (by omega)
      have b1 : (m : Int) < (n : Int) := by omega
      have b2 : m < n := by omega
      obtain ⟨y, hy⟩ : ∃ y, iAt l m = y := ⟨_, rfl⟩
      rw [hy] at c0 LE
      have HY := Lib.hid hy
      have HM := Lib.hid hm
      obtain ⟨q, hq⟩ : ∃ q, decide (y < t) = q := ⟨_, rfl⟩
      rw [hq] at LE
      have HQ := Lib.hid hq
      clear hm hy cok hq
      go_wp2_with fail
      refine LE.out.mono ?_
      rintro e w2 ⟨rfl, rfl⟩
      clear LE
      cases q
      · go_wp2
        go_roundw
        case rel =>
          refine ⟨i, m, by omega, by omega, rfl, rfl, LO.out, fun k h1 h2 => ?_, by first | rfl | trivial⟩
          have := rise_iAt HS.out h1 (by rw [HL.out]; exact h2)
          have q := HQ.out
          rw [decide_eq_false_iff_not] at q
          rw [HY.out] at this
          omega
        case measure => simp [intOf]; omega
      · go_wp2
        go_roundw
        case rel =>
          refine ⟨m + 1, j, by omega, by omega, by go_num, rfl, fun k hk => ?_, HI.out, by first | rfl | trivial⟩
          have := rise_iAt HS.out (a := k) (b := m) (by omega) (by rw [HL.out]; exact b2)
          have q := HQ.out
          rw [decide_eq_true_eq] at q
          rw [HY.out] at this
          omega
        case measure => simp [intOf]; omega
    · obtain rfl : i = j := by omega
      have i1 : decide ((i : Int) < (i : Int)) = false := by simp
      by_cases hin : i < n
      · have i2 : decide ((i : Int) < (n : Int)) = true := by rw [decide_eq_true_eq]; omega
        have i3 : (i : Int) < (n : Int) := by omega
        obtain ⟨g, rfl, hgx⟩ := H.out.1.at (by omega)
        clear hgx
        have c0 := H.out.cell i hin
        have MI : Hid (decide (iAt l i = t) = decide (t ∈ l)) := Lib.hid (by
          rw [decide_eq_decide]
          constructor
          · intro e; rw [← e]; exact iAt_mem (by rw [HL.out]; exact hin)
          · intro e
            obtain ⟨k, hk, ek⟩ := mem_iAt e
            rw [HL.out] at hk
            rcases Nat.lt_or_ge k i with c | c
            · have := LO.out k c; omega
            · have h1 := rise_iAt HS.out c (by rw [HL.out]; exact hk)
              have h2 := HI.out i (Nat.le_refl _) hin
              omega)
        obtain ⟨y, hy⟩ : ∃ y, iAt l i = y := ⟨_, rfl⟩
        rw [hy] at c0 MI
        clear hy
        by_cases hyt : y = t
        · have d1 : decide (y = t) = true := by rw [decide_eq_true_eq]; exact hyt
          have d2 : (y == t) = true := by rw [beq_iff_eq]; exact hyt
          rw [d1] at MI
          clear hyt d1
          go_wp2
          go_ret2
          exact ⟨⟨i, by rw [← MI.out]; rfl⟩, rfl⟩
        · have d1 : decide (y = t) = false := by rw [decide_eq_false_iff_not]; exact hyt
          have d2 : (y == t) = false := by rw [beq_eq_false_iff_ne]; exact hyt
          rw [d1] at MI
          clear hyt d1
          go_wp2
          go_ret2
          exact ⟨⟨i, by rw [← MI.out]; rfl⟩, rfl⟩
      · have i2 : decide ((i : Int) < (n : Int)) = false := by rw [decide_eq_false_iff_not]; omega
        have MI : Hid (false = decide (t ∈ l)) := Lib.hid (by
          symm
          rw [decide_eq_false_iff_not]
          intro e
          obtain ⟨k, hk, ek⟩ := mem_iAt e
          rw [HL.out] at hk
          have := LO.out k (by omega)
          omega)
        go_wp2
        go_ret2
        exact ⟨⟨i, by rw [← MI.out]; rfl⟩, rfl⟩
/-- A slice of ints that reads as a list, in blocks below N. -/
def IR (w : World) (N : Nat) (A : Option Addr) (l : List Int) : Prop := ∀ i, i < l.length → ∃ b o, A = some ⟨b, o, none⟩ ∧ b < N ∧ w.cell? ⟨b, o + i, none⟩ = some (.int .i64 (iAt l i)) ∧ I64x (iAt l i)
theorem IR.below {w w' : World} {N : Nat} {A : Option Addr} {l : List Int} (h : IR w N A l) (hb : Below N w w') : IR w' N A l := fun i hi => by
  obtain ⟨b, o, h1, h2, h3, h4⟩ := h i hi
  exact ⟨b, o, h1, h2, by rw [hb.cell (p := ⟨b, o + i, none⟩) h2]; exact h3, h4⟩
theorem IR.more {w : World} {N N' : Nat} {A : Option Addr} {l : List Int} (h : IR w N A l) (hb : N ≤ N') : IR w N' A l := fun i hi => by
  obtain ⟨b, o, h1, h2, h3⟩ := h i hi
  exact ⟨b, o, h1, by omega, h3⟩
theorem Try.info_int : (Try.prog.info? 3).map (fun i => (i.zero, i.size, i.bytes)) = some (some (.int .i64 0), 1, 8) := by kernel_rfl
theorem IR.src {w : World} {N : Nat} {ad : Addr} {l : List Int} (h : IR w N (some ad) l) (j : Nat) (u : Value) (hu : (ivs l)[j]? = some u) : w.cell? (ad.add j) = some u := by
  have hj : j < l.length := by
    rcases Nat.lt_or_ge j l.length with e | e
    · exact e
    · rw [List.getElem?_eq_none (by rw [ivs_len]; exact e)] at hu; cases hu
  obtain ⟨b', o', e, _, hc, _⟩ := h j hj
  injection e with e
  subst e
  rw [Addr.add_mid, hc, ← hu, ivs_at l j hj]
theorem cloneI_any (l : List Int) (N : Nat) (A : Option Addr) (n cap : Nat) (w : World) (hl : l.length = n) (hn : n ≤ 1000) (h : IR w N A l) (hN : N ≤ w.heap.size) :
    Calls Try.prog 28 #[.slice A n cap] w fun e w' => ∃ A' c', e = .returned (.slice A' n c') ∧ OwnI w' w.heap.size A' n c' l ∧ Below w.heap.size w w' := by
  cases A with
  | none =>
    have h0 : n = 0 := by
      rcases Nat.eq_zero_or_pos n with e | e
      · exact e
      · obtain ⟨b, o, e, _⟩ := h 0 (by omega); cases e
    subst h0
    have : l = [] := List.eq_nil_of_length_eq_zero hl
    subst this
    have en := eql_nil 47 3 none 0 cap Try.underlying47
    clear h hl
    go_enter Try.func28, Try.ntmps28
    go_wp2
    go_ret
    exact ⟨none, 0, rfl, OwnI.nil _ _, Below.refl _ _⟩
  | some ad =>
    have H := Lib.hid h; have HL := Lib.hid hl
    have OK : Hid (∀ i, i < n → I64x (iAt l i)) := Lib.hid (fun i hi => by obtain ⟨_, _, _, _, _, q⟩ := h i (by rw [hl]; exact hi); exact q)
    have en := eql_nil 47 3 (some ad) n cap Try.underlying47
    have H2 := Lib.hid (h.below (((Below.refl _ w).alloc (Nat.le_refl _) (.cells #[] 3)).mono hN))
    clear h hl
    go_enter Try.func28, Try.ntmps28
    go_wp2_with (at_builtin; go_loud (refine app_rowsN _ rfl _ _ 47 3 rfl Try.underlying47 _ 1 8 Try.info_int (by rfl) (by decide) (by decide) w.heap.size w.heap.size 0 0 [] rfl (RowN.empty w _ _ _ (Nat.le_refl _)) ad n cap (ivs l) (by rw [ivs_len, HL.out, Nat.mul_one]) rfl H2.out.src (ivs_one l) (by omega) (by simp) ?_))
    intro g' c'' w' r1 r2
    have r1 : RowN w' w.heap.size 3 1 (some ⟨g', 0, none⟩) n c'' (ivs l) := r1
    have R1 := Lib.hid r1
    have B1 : Hid (Below w.heap.size w w') := Lib.hid (Below.grown (Below.alloc (Below.refl _ w) (Nat.le_refl _) (.cells #[] 3)) r2 (by simp) (fun k hk => by injection hk with hk; omega))
    clear r1 r2
    go_wp2
    go_ret
    exact ⟨some ⟨g', 0, none⟩, c'', rfl, ⟨R1.out, HL.out, OK.out⟩, B1.out⟩
theorem FlR.src {w : World} {N : Nat} {ad : Addr} {l : List Fl} (h : FlR w N (some ad) l) (j : Nat) (u : Value) (hu : (flvs l)[j]? = some u) : w.cell? (ad.add j) = some u := by
  have hj : j < l.length * 4 := by
    rcases Nat.lt_or_ge j (l.length * 4) with e | e
    · exact e
    · rw [List.getElem?_eq_none (by rw [flvs_len]; exact e)] at hu; cases hu
  obtain ⟨i, r, hr, rfl⟩ : ∃ i r, r < 4 ∧ j = i * 4 + r := ⟨j / 4, j % 4, by omega, by omega⟩
  rw [flvs_at l i r (by omega) hr] at hu
  obtain ⟨b', o', e, _, h0, h1, h2, h3, _⟩ := h i (by omega)
  injection e with e
  subst e
  rw [Addr.add_mid, ← hu]
  have : r = 0 ∨ r = 1 ∨ r = 2 ∨ r = 3 := by omega
  rcases this with rfl | rfl | rfl | rfl
  · exact h0
  · exact h1
  · exact h2
  · exact h3
theorem flvs_one (l : List Fl) (u : Value) (h : u ∈ flvs l) : u.oneCell' = true := by
  unfold flvs at h
  obtain ⟨f, _, hf⟩ := List.mem_flatMap.1 h
  exact flv_one f u hf
theorem cloneF_any (l : List Fl) (N : Nat) (A : Option Addr) (n cap : Nat) (w : World) (hl : l.length = n) (hn : n ≤ 1000) (h : FlR w N A l) (hN : N ≤ w.heap.size) :
    Calls Try.prog 45 #[.slice A n cap] w fun e w' => ∃ A' c', e = .returned (.slice A' n c') ∧ OwnF w' w.heap.size A' n c' l ∧ Below w.heap.size w w' := by
  cases A with
  | none =>
    have h0 : n = 0 := by
      rcases Nat.eq_zero_or_pos n with e | e
      · exact e
      · obtain ⟨b, o, e, _⟩ := h 0 (by omega); cases e
    subst h0
    have : l = [] := List.eq_nil_of_length_eq_zero hl
    subst this
    have en := eql_nil 26 25 none 0 cap Try.underlying26
    clear h hl
    go_enter Try.func45, Try.ntmps45
    go_wp2
    go_ret
    exact ⟨none, 0, rfl, OwnF.nil _ _, Below.refl _ _⟩
  | some ad =>
    have H := Lib.hid h; have HL := Lib.hid hl
    have OK : Hid (∀ i, i < l.length → (flAt l i).Ok) := Lib.hid (fun i hi => by obtain ⟨_, _, _, _, _, _, _, _, q⟩ := h i hi; exact q)
    have en := eql_nil 26 25 (some ad) n cap Try.underlying26
    have H2 := Lib.hid (h.below (((Below.refl _ w).alloc (Nat.le_refl _) (.cells #[] 25)).mono hN))
    clear h hl
    go_enter Try.func45, Try.ntmps45
    go_wp2_with (at_builtin; go_loud (refine app_rowsN _ rfl _ _ 26 25 rfl Try.underlying26 _ 4 32 Try.info_file (by rfl) (by decide) (by decide) w.heap.size w.heap.size 0 0 [] rfl (RowN.empty w _ _ _ (Nat.le_refl _)) ad n cap (flvs l) (by rw [flvs_len, HL.out]) rfl H2.out.src (flvs_one l) (by omega) (by simp) ?_))
    intro g' c'' w' r1 r2
    have r1 : RowN w' w.heap.size 25 4 (some ⟨g', 0, none⟩) n c'' (flvs l) := r1
    have R1 := Lib.hid r1
    have B1 : Hid (Below w.heap.size w w') := Lib.hid (Below.grown (Below.alloc (Below.refl _ w) (Nat.le_refl _) (.cells #[] 25)) r2 (by simp) (fun k hk => by injection hk with hk; omega))
    clear r1 r2
    go_wp2
    go_ret
    exact ⟨some ⟨g', 0, none⟩, c'', rfl, ⟨R1.out, HL.out, OK.out⟩, B1.out⟩
/-- One int more. -/
theorem app_i (w : World) {ops : Array Oper} {rs : List Oper} {o : Oper} {a : Act} {Q : Exit → Act → World → Prop} (hgd : o.guard = none)
    (s x : Operand) (ho : o.op = .call { callee := .builtin .append, args := #[s, x], argTypes := #[47, 47] })
    (base n cap : Nat) (A : Option Addr) (l : List Int) (hs : a.eval s = .slice A n cap) (hown : OwnI w base A n cap l)
    (b' : Nat) (c : Nat) (v : Int) (hx : a.eval x = .slice (some ⟨b', 0, none⟩) 1 c) (hr : w.cell? ⟨b', 0, none⟩ = some (.int .i64 v)) (hf : I64x v)
    (hl : n ≤ 1000000) (hbase : base ≤ w.heap.size)
    (h : ∀ g' cap' w', OwnI w' base (some ⟨g', 0, none⟩) (n + 1) cap' (l ++ [v]) → FlKeep A g' w w' → wpList Try.prog ops Q rs (a.put o.dst (.slice (some ⟨g', 0, none⟩) (n + 1) cap')) w') :
    wpList Try.prog ops Q (o :: rs) a w := by
  obtain ⟨i0, hi, hz0, hz1, hz2⟩ := info_parts Try.info_int
  have hsrc : ∀ (j : Nat) (u : Value), (ivs [v])[j]? = some u → w.cell? ((⟨b', 0, none⟩ : Addr).add j) = some u := fun j u hu => by
    cases j with
    | zero =>
      have e : some (Value.int .i64 v) = some u := hu
      rw [← e, Addr.add_mid]; exact hr
    | succ j => cases hu
  refine wpList_append_lies w hgd s x 47 ho base 3 i0 _ 1 8 Try.underlying47 hi hz0 hz1 hz2 rfl (by decide) _ n (ivs l) hs hown.1 ⟨b', 0, none⟩ 1 c (ivs [v]) hx rfl hsrc (ivs_one [v]) (by decide) (by unfold maxLen; omega) (by omega) hbase w.heap.size rfl ?_
  intro g' cap' w' h1 h2 h3 _
  refine h g' cap' w' ⟨?_, by rw [List.length_append, hown.2.1]; rfl, fun i hi => ?_⟩ (flKeep_of h2 (by rcases h3 with e | e; exact Or.inl e; exact Or.inr (by omega)))
  · have e : ivs (l ++ [v]) = ivs l ++ ivs [v] := by unfold ivs; rw [List.map_append]
    rw [e]; exact h1
  · rw [iAt_snoc]
    have hl := hown.2.1
    split
    · exact hown.2.2 i (by omega)
    · rw [if_pos (by omega)]; exact hf
end Go.Proofs.Ytjiigbmfbmkhjaa
