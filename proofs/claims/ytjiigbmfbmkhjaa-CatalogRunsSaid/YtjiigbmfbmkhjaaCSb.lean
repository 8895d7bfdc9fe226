/-
  The contract of slices.insertionSortCmpFunc at files with byName: the row is sorted by names, equals stay in their order.
-/
import Derived.Test.YtjiigbmfbmkhjaaCSa
import Derived.Test.YtjiigbmfbmkhjaaTake
import Derived.Test.YtjiigbmfbmkhjaaCPc
import Derived.BigRegion
import Derived.BigQuiet
import Derived.Deep.QuietTactic
namespace Go.Proofs.Ytjiigbmfbmkhjaa
set_option linter.unusedVariables false
set_option linter.unusedSimpArgs false
set_option maxRecDepth 100000
open Go.RowKit

theorem flAt_app_right (P S : List Fl) (j : Nat) : flAt (P ++ S) (P.length + j) = flAt S j := by
  unfold flAt
  rw [List.getD_eq_getElem?_getD, List.getElem?_append_right (by omega), Nat.add_sub_cancel_left, List.getD_eq_getElem?_getD]
theorem flAt_mid (P S : List Fl) (x : Fl) (j : Nat) (h : P.length = j) : flAt (P ++ x :: S) j = x := by
  subst h
  exact flAt_app_right P (x :: S) 0
/-- What holds at the inner loop's head: x has come to place j, ahead of S; P and S are the sorted front. -/
structure Mid (L R : List Fl) (x : Fl) (j : Nat) (d : List Fl) : Prop where
  mk' ::
  ex : ∃ P S, d = P ++ x :: (S ++ R) ∧ P.length = j ∧ P ++ S = L ∧ ∀ z, z ∈ S → x.name < z.name
theorem Mid.start (L R : List Fl) (x : Fl) : Mid L R x L.length (L ++ x :: R) := ⟨L, [], rfl, rfl, List.append_nil _, fun z hz => by cases hz⟩
theorem Mid.at {L R : List Fl} {x : Fl} {j : Nat} {d : List Fl} (h : Mid L R x j d) : flAt d j = x := by
  obtain ⟨P, S, rfl, hP, _, _⟩ := h
  exact flAt_mid P _ x j hP
theorem Mid.down {L R : List Fl} {x : Fl} {j : Nat} {d : List Fl} (h : Mid L R x (j + 1) d) (hlt : x.name < (flAt d j).name) : Mid L R x j ((d.set (j + 1) (flAt d j)).set j x) := by
  obtain ⟨P, S, rfl, hP, hL, hS⟩ := h
  rcases List.eq_nil_or_concat P with e | ⟨P', p, e⟩
  · rw [e] at hP; cases hP
  · rw [List.concat_eq_append] at e
    subst e
    rw [List.length_append] at hP
    have hP : P'.length = j := by simpa using hP
    have hd : P' ++ [p] ++ x :: (S ++ R) = P' ++ p :: x :: (S ++ R) := by simp
    have hp : flAt (P' ++ [p] ++ x :: (S ++ R)) j = p := by rw [hd]; exact flAt_mid P' _ p j hP
    rw [hp] at hlt ⊢
    refine ⟨P', p :: S, ?_, hP, by rw [← hL]; simp, fun z hz => ?_⟩
    · rw [hd, ← hP, List.set_append_right _ _ (by omega), List.set_append_right _ _ (by omega)]
      have e1 : P'.length + 1 - P'.length = 1 := by omega
      rw [e1, Nat.sub_self]
      rfl
    · rcases List.mem_cons.1 hz with e | e
      · rw [e]; exact hlt
      · exact hS z e
theorem Mid.stop {L R : List Fl} {x : Fl} {j : Nat} {d : List Fl} (h : Mid L R x j d) (hr : Rise Fl.name L) (hs : j = 0 ∨ ∃ i, j = i + 1 ∧ ¬ x.name < (flAt d i).name) : d = ins Fl.name x L ++ R := by
  obtain ⟨P, S, rfl, hP, hL, hS⟩ := h
  have key : ∀ z, z ∈ P → z.name ≤ x.name := by
    rcases hs with e | ⟨i, e, hn⟩
    · rw [e] at hP
      rw [List.eq_nil_of_length_eq_zero hP]
      exact fun z hz => by cases hz
    · rcases List.eq_nil_or_concat P with e' | ⟨P', p, e'⟩
      · rw [e', e] at hP; cases hP
      · rw [List.concat_eq_append] at e'
        subst e'
        rw [List.length_append, e] at hP
        have hP : P'.length = i := by simpa using hP
        have hp : flAt (P' ++ [p] ++ x :: (S ++ R)) i = p := by
          have hd : P' ++ [p] ++ x :: (S ++ R) = P' ++ p :: x :: (S ++ R) := by simp
          rw [hd]; exact flAt_mid P' _ p i hP
        rw [hp] at hn
        rw [← hL] at hr
        exact rise_last Fl.name hr (by omega)
  rw [← hL, ins_at Fl.name x S hS P key]
  simp
theorem Mid.len {L R : List Fl} {x : Fl} {j : Nat} {d : List Fl} (h : Mid L R x j d) : j ≤ L.length ∧ d.length = L.length + 1 + R.length := by
  obtain ⟨P, S, rfl, hP, hL, hS⟩ := h
  rw [← hL]
  simp
  omega
theorem isort_take {l : List Fl} {i : Nat} (hi : i < l.length) : isort Fl.name (l.take (i + 1)) = ins Fl.name (flAt l i) (isort Fl.name (l.take i)) := by
  rw [← isort_snoc, List.take_succ_eq_append_getElem hi, flAt_get hi]
theorem drop_at {l : List Fl} {i : Nat} (hi : i < l.length) : l.drop i = flAt l i :: l.drop (i + 1) := by
  rw [← flAt_get hi]; exact List.drop_eq_getElem_cons hi
set_option maxHeartbeats 4000000 in
theorem insF_any (l : List Fl) (base g n cap : Nat) (w : World) (hn : n ≤ 1000) (h : OwnF w base (some ⟨g, 0, none⟩) n cap l) :
    Calls Try.prog 68 #[.slice (some ⟨g, 0, none⟩) n cap, .int .i64 0, .int .i64 n, .func (.func 32) #[] #[]] w fun e w' => e = .returned (.tuple #[]) ∧ OwnF w' base (some ⟨g, 0, none⟩) n cap (isort Fl.name l) ∧ Keep (· = g) w w' := by
  have H := Lib.hid h
  have HL := Lib.hid h.2.1
  clear h
  go_enter Try.func68, Try.ntmps68
  go_wp2
  go_loopw [8, 9] (fun iv _ wr => ∃ i : Nat, 1 ≤ i ∧ i ≤ n + 1 ∧ iv = .int .i64 i ∧ OwnF wr base (some ⟨g, 0, none⟩) n cap (isort Fl.name (l.take i) ++ l.drop i) ∧ Keep (· = g) w wr) (fun iv _ _ => n + 1 - (intOf iv).toNat)
  case atStart =>
    refine ⟨1, by omega, by omega, rfl, ?_, Keep.refl _ _⟩
    have e : isort Fl.name (l.take 1) ++ l.drop 1 = l := by
      cases l with
      | nil => rfl
      | cons x r => rfl
    rw [e]; exact H.out
  case round =>
    obtain ⟨i, hi1, hi, rfl, ow, kp⟩ := hrel
    have KP := Lib.hid kp
    clear kp
    by_cases hlt : i < n
    · have i1 : decide ((i : Int) < (n : Int)) = true := by rw [decide_eq_true_eq]; omega
      have HX := Lib.hid (isort_take (l := l) (i := i) (by rw [HL.out]; exact hlt))
      rw [drop_at (by rw [HL.out]; exact hlt)] at ow
      have LL : Hid ((isort Fl.name (l.take i)).length = i) := Lib.hid (by rw [isort_length, List.length_take, HL.out]; omega)
      have RS := Lib.hid (isort_rise Fl.name (l.take i))
      have RL : Hid ((l.drop (i + 1)).length = n - (i + 1)) := Lib.hid (by rw [List.length_drop, HL.out])
      obtain ⟨L, hL⟩ : ∃ L, isort Fl.name (l.take i) = L := ⟨_, rfl⟩
      obtain ⟨x, hx⟩ : ∃ x, flAt l i = x := ⟨_, rfl⟩
      obtain ⟨R, hR⟩ : ∃ R, l.drop (i + 1) = R := ⟨_, rfl⟩
      rw [hL] at ow LL RS; rw [hx, hR] at ow; rw [hL, hx] at HX; rw [hR] at RL
      have HR := Lib.hid hR
      have OW := Lib.hid ow
      clear hL hx hR ow
      go_wp2
      go_loopw [9] (fun jv wr => ∃ (j : Nat) (d : List Fl), jv = .int .i64 j ∧ Mid L R x j d ∧ OwnF wr base (some ⟨g, 0, none⟩) n cap d ∧ Keep (· = g) w wr) (fun jv _ => (intOf jv).toNat)
      case atStart => exact ⟨i, L ++ x :: R, rfl, by have := Mid.start L R x; rw [LL.out] at this; exact this, OW.out, KP.out⟩
      case round =>
        obtain ⟨j, d, rfl, md, ow, kp⟩ := hrel
        have ML := md.len
        rw [LL.out, RL.out] at ML
        have MD := Lib.hid md; have OJ := Lib.hid ow; have KJ := Lib.hid kp
        have hgn : 0 < n := by omega
        have hgs := (ow.lt _ rfl).2
        clear md ow kp
        have STOP : Hid ((j = 0 ∨ ∃ i, j = i + 1 ∧ ¬ x.name < (flAt d i).name) → d = isort Fl.name (l.take (i + 1)) ++ l.drop (i + 1)) := Lib.hid (fun h => by rw [HX.out, HR.out]; exact MD.out.stop RS.out h)
        cases j with
        | zero =>
          have j1 : decide ((0 : Int) > 0) = false := by decide
          go_wp2
          go_quiet (fail)
          go_wp2
          go_roundw
          case rel =>
            refine ⟨i + 1, by omega, by omega, by go_num, ?_, ?_⟩
            · rw [← STOP.out (Or.inl (by simp))]; exact OJ.out.same (fun a ha => rfl)
            · exact KJ.out.drewN _
          case measure => simp [intOf]; omega
        | succ m =>
          have j1 : decide (((m : Int) + 1) > 0) = true := by rw [decide_eq_true_eq]; omega
          have j2 : decide ((0 : Int) < ((m : Int) + 1)) = true := by rw [decide_eq_true_eq]; omega
          obtain ⟨x0, x1, x2, x3, xok⟩ := OJ.out.cells4 (m + 1) (by omega)
          rw [MD.out.at] at x0 x1 x2 x3 xok
          obtain ⟨p0, p1, p2, p3, pok⟩ := OJ.out.cells4 m (by omega)
          obtain ⟨p, hp⟩ : ∃ p, flAt d m = p := ⟨_, rfl⟩
          rw [hp] at p0 p1 p2 p3 pok
          have HP := Lib.hid hp
          have BN := Lib.hid (fun w0 => byName_any x p xok pok w0)
          have XOK := Lib.hid xok; have POK := Lib.hid pok
          have mw : IntKind.i64.wrap (m : Int) = m := IntWalk.i64_in _ (by omega)
          obtain ⟨q, hq⟩ : ∃ q, decide (cmp3 x.name p.name < 0) = q := ⟨_, rfl⟩
          have HQ : Hid (decide (x.name < p.name) = q) := Lib.hid (by rw [← hq, cmp3_lt])
          have b1 : (m : Int) + 1 < (n : Int) := by omega
          have b2 : m + 1 < n := by omega
          have b3 : (m : Int) < (n : Int) := by omega
          have b4 : m < n := by omega
          have b5 : (0 : Int) ≤ (m : Int) + 1 := by omega
          clear hp xok pok
          go_upto_region 4 with fail
          refine wp_region_held_drew (S := fun w' => OwnF w' base (some ⟨g, 0, none⟩) n cap d) (by kernel_rfl) OJ.out (fun HS => ?_)
          refine takeY (i := 0) (d := 18) (v := ?_) rfl rfl (by kernel_rfl) (by kernel_rfl) (by kernel_rfl) (fun _ _ _ h => h) (by rfl) ?_ HS ?_
          rotate_left
          · intro w' hSw
            go_simp
            try with_reducible rfl
          simp only [Act.put, List.setIfInBounds_toArray, List.set_cons_zero, List.set_cons_succ]
          refine takeY (i := 1) (d := 19) (v := ?_) rfl rfl (by kernel_rfl) (by kernel_rfl) (by kernel_rfl) (fun _ _ _ h => h) (by rfl) ?_ HS ?_
          rotate_left
          · intro w' hSw
            go_simp
            try with_reducible rfl
          simp only [Act.put, List.setIfInBounds_toArray, List.set_cons_zero, List.set_cons_succ]
          refine takeY (i := 2) (d := 20) (v := ?_) rfl rfl (by kernel_rfl) (by kernel_rfl) (by kernel_rfl) (fun _ _ _ h => h) (by rfl) ?_ HS ?_
          rotate_left
          · intro w' hSw
            go_simp
            try with_reducible rfl
          simp only [Act.put, List.setIfInBounds_toArray, List.set_cons_zero, List.set_cons_succ]
          refine takeY (i := 3) (d := 21) (v := ?_) rfl rfl (by kernel_rfl) (by kernel_rfl) (by kernel_rfl) (fun _ _ _ h => h) (by rfl) ?_ HS ?_
          rotate_left
          · intro w' hSw
            go_simp
            try with_reducible rfl
          simp only [Act.put, List.setIfInBounds_toArray, List.set_cons_zero, List.set_cons_succ]
          refine takeY (i := 4) (d := 22) (v := ?_) rfl rfl (by kernel_rfl) (by kernel_rfl) (by kernel_rfl) (fun _ _ _ h => h) (by rfl) ?_ HS ?_
          rotate_left
          · intro w' hSw
            go_simp
            try with_reducible rfl
          simp only [Act.put, List.setIfInBounds_toArray, List.set_cons_zero, List.set_cons_succ]
          refine takeY (i := 5) (d := 23) (v := ?_) rfl rfl (by kernel_rfl) (by kernel_rfl) (by kernel_rfl) (fun _ _ _ h => h) (by rfl) ?_ HS ?_
          rotate_left
          · intro w' hSw
            go_simp
            try with_reducible rfl
          simp only [Act.put, List.setIfInBounds_toArray, List.set_cons_zero, List.set_cons_succ]
          refine takeY (i := 6) (d := 24) (v := ?_) rfl rfl (by kernel_rfl) (by kernel_rfl) (by kernel_rfl) (fun _ _ _ h => h) (by rfl) ?_ HS ?_
          rotate_left
          · intro w' hSw
            go_simp
            try with_reducible rfl
          simp only [Act.put, List.setIfInBounds_toArray, List.set_cons_zero, List.set_cons_succ]
          refine takeY (i := 7) (d := 25) (v := ?_) rfl rfl (by kernel_rfl) (by kernel_rfl) (by kernel_rfl) (fun _ _ _ h => h) (by rfl) ?_ HS ?_
          rotate_left
          · intro w' hSw
            go_simp
            try with_reducible rfl
          simp only [Act.put, List.setIfInBounds_toArray, List.set_cons_zero, List.set_cons_succ]
          refine takeY (i := 8) (d := 26) (v := ?_) rfl rfl (by kernel_rfl) (by kernel_rfl) (by kernel_rfl) (fun _ _ _ h => h) (by rfl) ?_ HS ?_
          rotate_left
          · intro w' hSw
            obtain ⟨x0, x1, x2, x3, _⟩ := hSw.cells4 (m + 1) (by omega)
            rw [MD.out.at] at x0 x1 x2 x3
            go_simp
            try with_reducible rfl
          simp only [Act.put, List.setIfInBounds_toArray, List.set_cons_zero, List.set_cons_succ]
          refine takeY (i := 9) (d := 27) (v := ?_) rfl rfl (by kernel_rfl) (by kernel_rfl) (by kernel_rfl) (fun _ _ _ h => h) (by rfl) ?_ HS ?_
          rotate_left
          · intro w' hSw
            go_simp
            try with_reducible rfl
          simp only [Act.put, List.setIfInBounds_toArray, List.set_cons_zero, List.set_cons_succ]
          refine takeY (i := 10) (d := 28) (v := ?_) rfl rfl (by kernel_rfl) (by kernel_rfl) (by kernel_rfl) (fun _ _ _ h => h) (by rfl) ?_ HS ?_
          rotate_left
          · intro w' hSw
            go_simp
            try with_reducible rfl
          simp only [Act.put, List.setIfInBounds_toArray, List.set_cons_zero, List.set_cons_succ]
          refine takeY (i := 11) (d := 29) (v := ?_) rfl rfl (by kernel_rfl) (by kernel_rfl) (by kernel_rfl) (fun _ _ _ h => h) (by rfl) ?_ HS ?_
          rotate_left
          · intro w' hSw
            go_simp
            try with_reducible rfl
          simp only [Act.put, List.setIfInBounds_toArray, List.set_cons_zero, List.set_cons_succ]
          refine takeY (i := 12) (d := 30) (v := ?_) rfl rfl (by kernel_rfl) (by kernel_rfl) (by kernel_rfl) (fun _ _ _ h => h) (by rfl) ?_ HS ?_
          rotate_left
          · intro w' hSw
            go_simp
            try with_reducible rfl
          simp only [Act.put, List.setIfInBounds_toArray, List.set_cons_zero, List.set_cons_succ]
          refine takeY (i := 13) (d := 31) (v := ?_) rfl rfl (by kernel_rfl) (by kernel_rfl) (by kernel_rfl) (fun _ _ _ h => h) (by rfl) ?_ HS ?_
          rotate_left
          · intro w' hSw
            obtain ⟨x0, x1, x2, x3, _⟩ := hSw.cells4 m (by omega)
            rw [HP.out] at x0 x1 x2 x3
            go_simp
            try with_reducible rfl
          simp only [Act.put, List.setIfInBounds_toArray, List.set_cons_zero, List.set_cons_succ]
          refine wpAnyH_ready (rs := [14]) (by kernel_rfl) (by simp) ?_
          refine AllReadyH.cons rfl (fun K hK => ?_) AllReadyH.nil
          go_simp
          refine (BN.out _).mono ?_
          rintro e w2 ⟨rfl, b2⟩
          have O2 := Lib.hid (OJ.out.same (w' := w2) (fun a ha => by rw [b2.block _ (OJ.out.lt a ha).2]; rfl))
          have K2 := Lib.hid (KJ.out.step (Keep.of_below (F := (· = g)) (w := wr) (w' := w2) ⟨b2.os, b2.tape, b2.output, b2.size, b2.block⟩))
          have hg2 := (O2.out.lt _ rfl).2
          clear b2 BN
          refine hK.out _ _ O2.out (fun HS2 => ?_)
          clear hK
          try simp only [Act.put, List.setIfInBounds_toArray, List.set_cons_zero, List.set_cons_succ]
          refine takeY (i := 15) (d := 33) (v := ?_) rfl rfl (by kernel_rfl) (by kernel_rfl) (by kernel_rfl) (fun _ _ _ h => h) (by rfl) ?_ HS2 ?_
          rotate_left
          · intro w' hSw
            go_simp
            try with_reducible rfl
          simp only [Act.put, List.setIfInBounds_toArray, List.set_cons_zero, List.set_cons_succ]
          refine takeY (i := 16) (d := 34) (v := ?_) rfl rfl (by kernel_rfl) (by kernel_rfl) (by kernel_rfl) (fun _ _ _ h => h) (by rfl) ?_ HS2 ?_
          rotate_left
          · intro w' hSw
            go_simp
            try with_reducible rfl
          simp only [Act.put, List.setIfInBounds_toArray, List.set_cons_zero, List.set_cons_succ]
          refine wpAnyH_done (by kernel_rfl) ?_ _
          clear HS HS2
          cases q
          · go_wp2
            go_roundw
            case rel =>
              refine ⟨i + 1, by omega, by omega, by go_num, ?_, K2.out⟩
              rw [← STOP.out (Or.inr ⟨m, rfl, by rw [HP.out]; simpa using HQ.out⟩)]; exact O2.out
            case measure => simp [intOf]; omega
          · have X := Lib.hid (O2.out.cells4 (m + 1) (by omega))
            rw [MD.out.at] at X
            have Y := Lib.hid (O2.out.cells4 m (by omega))
            rw [HP.out] at Y
            obtain ⟨x0, x1, x2, x3, _⟩ := X.out
            obtain ⟨p0, p1, p2, p3, _⟩ := Y.out
            have fz := OwnF.frozen O2.out hgn
            clear X Y
            go_upto_region 6 with fail
            go_region
            go_wp2
            go_roundw
            case rel =>
              refine ⟨m, (d.set (m + 1) p).set m x, by congr 1, ?_, ?_, ?_⟩
              · have := MD.out.down (by rw [HP.out]; simpa using HQ.out)
                rw [HP.out] at this
                exact this
              · exact ((O2.out.set (m + 1) (by omega) p POK.out).set m (by omega) x XOK.out).drew
              · exact ((((((((K2.out.step (keep_set rfl)).step (keep_set rfl)).step (keep_set rfl)).step (keep_set rfl)).step (keep_set rfl)).step (keep_set rfl)).step (keep_set rfl)).step (keep_set rfl)).drew
            case measure => simp [intOf]
    · have i1 : decide ((i : Int) < (n : Int)) = false := by rw [decide_eq_false_iff_not]; omega
      have E : Hid (isort Fl.name (l.take i) ++ l.drop i = isort Fl.name l) := Lib.hid (by rw [List.take_of_length_le (by rw [HL.out]; omega), List.drop_eq_nil_of_le (by rw [HL.out]; omega), List.append_nil])
      go_wp2
      go_end0
      exact ⟨rfl, by rw [← E.out]; exact ow, KP.out⟩
theorem insF_none (A : Option Addr) (n cap k : Nat) (hk : k ≤ 1000) (w : World) :
    Calls Try.prog 68 #[.slice A n cap, .int .i64 k, .int .i64 k, .func (.func 32) #[] #[]] w fun e w' => e = .returned (.tuple #[]) ∧ w = w' := by
  have i1 : decide ((k : Int) + 1 < (k : Int)) = false := by rw [decide_eq_false_iff_not]; omega
  have kw : IntKind.i64.wrap ((k : Int) + 1) = (k : Int) + 1 := IntWalk.i64_in _ (by omega)
  go_enter Try.func68, Try.ntmps68
  go_wp2
  go_loopw [8, 9] (fun iv _ wr => iv = .int .i64 ((k : Int) + 1) ∧ w = wr) (fun _ _ _ => 0)
  case atStart => exact ⟨rfl, rfl⟩
  case round =>
    obtain ⟨rfl, rfl⟩ := hrel
    go_wp2
    go_end0
    exact ⟨rfl, rfl⟩
/-- A row of files that a call sorts: its blocks. -/
def blockOf (A : Option Addr) (k : Nat) : Prop := ∃ a, A = some a ∧ k = a.block
theorem insF_whole (l : List Fl) (base : Nat) (A : Option Addr) (n cap : Nat) (w : World) (hn : n ≤ 1000) (h : OwnF w base A n cap l) :
    Calls Try.prog 68 #[.slice A n cap, .int .i64 0, .int .i64 n, .func (.func 32) #[] #[]] w fun e w' => e = .returned (.tuple #[]) ∧ OwnF w' base A n cap (isort Fl.name l) ∧ Keep (blockOf A) w w' := by
  rcases Nat.eq_zero_or_pos n with h0 | h0
  · subst h0
    refine (insF_none A 0 cap 0 (by omega) w).mono ?_
    rintro e w' ⟨rfl, rfl⟩
    have : l = [] := List.eq_nil_of_length_eq_zero h.2.1
    subst this
    exact ⟨rfl, h, Keep.refl _ _⟩
  · obtain ⟨g, rfl, _⟩ := h.1.at h0
    refine (insF_any l base g n cap w hn h).mono ?_
    rintro e w' ⟨rfl, h1, h2⟩
    exact ⟨rfl, h1, h2.os, h2.tape, h2.output, h2.size, fun k hk hn => h2.block k hk (fun e => hn ⟨_, rfl, e⟩)⟩
def StRel (l : List Fl) (base : Nat) (A : Option Addr) (n cap : Nat) (w : World) (av bv : Value) (wr : World) : Prop := (av = .int .i64 0 ∧ bv = .int .i64 20 ∧ w = wr) ∨ (n = 20 ∧ av = .int .i64 20 ∧ bv = .int .i64 40 ∧ OwnF wr base A n cap (isort Fl.name l) ∧ Keep (blockOf A) w wr)
set_option maxHeartbeats 1000000 in
theorem stableF_any (l : List Fl) (base : Nat) (A : Option Addr) (n cap : Nat) (w : World) (hn : n ≤ 20) (h : OwnF w base A n cap l) :
    Calls Try.prog 50 #[.slice A n cap, .int .i64 n, .func (.func 32) #[] #[]] w fun e w' => e = .returned (.tuple #[]) ∧ OwnF w' base A n cap (isort Fl.name l) ∧ Keep (blockOf A) w w' := by
  have H := Lib.hid h
  clear h
  go_enter Try.func50, Try.ntmps50
  have q2 : decide ((20 : Int) < (n : Int)) = false := by rw [decide_eq_false_iff_not]; omega
  go_wp2
  go_loopw [7, 8] (fun av bv wr => StRel l base A n cap w av bv wr) (fun av _ _ => 20 - (intOf av).toNat)
  case atStart => exact Or.inl ⟨rfl, rfl, rfl⟩
  case round =>
    rcases hrel with ⟨rfl, rfl, rfl⟩ | ⟨h20, rfl, rfl, ow, kp⟩
    · by_cases h20 : n = 20
      · have q1 : decide ((20 : Int) ≤ (n : Int)) = true := by rw [decide_eq_true_eq]; omega
        have IF : Hid (Calls Try.prog 68 #[.slice A n cap, .int .i64 0, .int .i64 20, .func (.func 32) #[] #[]] w fun e w' => e = .returned (.tuple #[]) ∧ OwnF w' base A n cap (isort Fl.name l) ∧ Keep (blockOf A) w w') := Lib.hid (by
          have := insF_whole l base A n cap w (by omega) H.out
          have e : (n : Int) = 20 := by omega
          rw [e] at this
          exact this)
        have H20 := Lib.hid h20
        clear h20
        go_wp2_with fail
        refine IF.out.mono ?_
        rintro e w2 ⟨rfl, o2, k2⟩
        have O2 := Lib.hid o2; have K2 := Lib.hid k2
        clear o2 k2 IF
        go_wp2
        go_roundw
        case rel => exact Or.inr ⟨H20.out, rfl, rfl, O2.out, K2.out⟩
        case measure => simp [intOf]
      · have q1 : decide ((20 : Int) ≤ (n : Int)) = false := by rw [decide_eq_false_iff_not]; omega
        have IF := Lib.hid (insF_whole l base A n cap w (by omega) H.out)
        clear h20
        go_wp2_with fail
        refine IF.out.mono ?_
        rintro e w2 ⟨rfl, o2, k2⟩
        have O2 := Lib.hid o2; have K2 := Lib.hid k2
        clear o2 k2 IF
        go_wp2
        go_loopw [6, 7, 8, 9] (fun bs _ _ _ wr => bs = .int .i64 20 ∧ w2 = wr) (fun _ _ _ _ _ => 0)
        case atStart => exact ⟨rfl, rfl⟩
        case round =>
          obtain ⟨rfl, rfl⟩ := hrel
          go_wp2
          go_end0
          exact ⟨rfl, O2.out, K2.out⟩
    · have O2 := Lib.hid ow; have K2 := Lib.hid kp
      have IN : Hid (∀ w0, Calls Try.prog 68 #[.slice A n cap, .int .i64 20, .int .i64 n, .func (.func 32) #[] #[]] w0 fun e w' => e = .returned (.tuple #[]) ∧ w0 = w') := Lib.hid (fun w0 => by
        have := insF_none A n cap 20 (by omega) w0
        have e : (n : Int) = 20 := by omega
        rw [e]
        exact this)
      have q1 : decide ((40 : Int) ≤ (n : Int)) = false := by rw [decide_eq_false_iff_not]; omega
      clear ow kp h20
      go_wp2_with fail
      refine (IN.out _).mono ?_
      rintro e w2 ⟨rfl, rfl⟩
      go_wp2
      go_loopw [6, 7, 8, 9] (fun bs _ _ _ wr2 => bs = .int .i64 20 ∧ wr = wr2) (fun _ _ _ _ _ => 0)
      case atStart => exact ⟨rfl, rfl⟩
      case round =>
        obtain ⟨rfl, rfl⟩ := hrel
        go_wp2
        go_end0
        exact ⟨rfl, O2.out, K2.out⟩
theorem sortF_any (l : List Fl) (base : Nat) (A : Option Addr) (n cap : Nat) (w : World) (hn : n ≤ 20) (h : OwnF w base A n cap l) :
    Calls Try.prog 31 #[.slice A n cap, .func (.func 32) #[] #[]] w fun e w' => e = .returned (.tuple #[]) ∧ OwnF w' base A n cap (isort Fl.name l) ∧ Keep (blockOf A) w w' := by
  have ST := Lib.hid (stableF_any l base A n cap w hn h)
  clear h
  go_enter Try.func31, Try.ntmps31
  go_wp2_with fail
  refine ST.out.mono ?_
  rintro e w2 ⟨rfl, o2, k2⟩
  have O2 := Lib.hid o2; have K2 := Lib.hid k2
  clear o2 k2 ST
  go_wp2
  go_end0
  exact ⟨rfl, O2.out, K2.out⟩
end Go.Proofs.Ytjiigbmfbmkhjaa
