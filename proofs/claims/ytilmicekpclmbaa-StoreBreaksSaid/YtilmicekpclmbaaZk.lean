/-
  The program's disk: Read.
  What the laws' walks ask of package disk.
-/
import Derived.Test.YtilmicekpclmbaaZj
namespace Go.Proofs.Ytilmicekpclmbaa
set_option linter.unusedVariables false
set_option linter.unusedSimpArgs false
open Go.RowKit Go.Shelf
attribute [local go_sem] Oper.semAt_some
attribute [local go_sem ↓] loadWr_eq

/-- What Read says of a block. -/
def ReadE (s : Dk) (i : Int) (w : World) (e : Ending) (w' : World) : Prop :=
  (∃ xs gn cn, 0 ≤ i ∧ i < s.blk.length ∧ s.read i.toNat = some xs ∧ e = .returned (.tuple #[.slice (some ⟨gn, 0, none⟩) 128 cn, .bool true]) ∧ Own w' w.heap.size gn cn xs) ∨
  ((i < 0 ∨ s.blk.length ≤ i ∨ s.read i.toNat = none) ∧ e = .returned (.tuple #[.slice none 0 0, .bool false]))

theorem results_read (T : Array Value) (w : World) (p q : Nat) (v u : Value) (h4 : T.getD 4 undef = .pointer (some ⟨p, 0, none⟩)) (h5 : T.getD 5 undef = .pointer (some ⟨q, 0, none⟩)) (c4 : w.cell? ⟨p, 0, none⟩ = some v) (c5 : w.cell? ⟨q, 0, none⟩ = some u) : (results Try.f52 T).run Try.prog w = .ok (.tuple #[v, u]) w := by
  have e : Try.f52.results = #[.cell 4 30, .cell 5 4] := rfl
  rw [Array.getD_eq_getD_getElem?] at h4 h5
  unfold results
  rw [e]
  simp [go_sem, h4, h5, c4, c5]
theorem come_mem (l : List (Nat × List Int)) (h : ∀ p, p ∈ l → IsBlk p.2) (j t : Nat) (ht : t < j) : wtEl l h (l.length - 1 - t) ∈ wtCome l h j := by unfold wtCome; exact List.mem_map.2 ⟨t, List.mem_range.2 ht, rfl⟩
theorem come_none (l : List (Nat × List Int)) (h : ∀ p, p ∈ l → IsBlk p.2) (i : Nat) (hp : ∀ x, x ∈ wtCome l h l.length → x.2.1.1 ≠ i) : lastFor l i = none := by
  refine lastFor_none2 _ _ (fun p hp' => ?_)
  obtain ⟨j, hj, rfl⟩ := List.mem_iff_getElem.1 hp'
  have h1 := hp _ (come_mem l h l.length (l.length - 1 - j) (by omega))
  have e : l.length - 1 - (l.length - 1 - j) = j := by omega
  rw [e] at h1
  unfold wtEl at h1
  have h1 : (l.getD j (0, fillB 0)).1 ≠ i := h1
  rw [List.getD_eq_getElem?_getD, List.getElem?_eq_getElem hj] at h1
  exact h1
theorem come_at (l : List (Nat × List Int)) (h : ∀ p, p ∈ l → IsBlk p.2) (i k : Nat) (ini : List Wt) (last : Wt) (hk : k ≤ l.length) (e : wtCome l h k = ini ++ [last]) (h1 : ∀ x, x ∈ ini → x.2.1.1 ≠ i) (h2 : last.2.1.1 = i) : lastFor l i = some last.2.1.2 := by
  obtain ⟨k', rfl⟩ : ∃ k', k = k' + 1 := by
    cases k with
    | zero => simp [wtCome] at e
    | succ k' => exact ⟨k', rfl⟩
  rw [wtCome_succ] at e
  obtain ⟨e1, e2⟩ := List.append_inj' e rfl
  injection e2 with e2 _
  subst e1 e2
  refine lastFor_at2 l i (l.length - 1 - k') (by omega) h2 (fun j hj1 hj2 => ?_)
  have h3 := h1 _ (come_mem l h k' (l.length - 1 - j) (by omega))
  have e : l.length - 1 - (l.length - 1 - j) = j := by omega
  rw [e] at h3
  exact h3
theorem Own.lower {w : World} {base base' g cap : Nat} {xs : List Int} (h : Own w base g cap xs) (hb : base' ≤ base) : Own w base' g cap xs := ⟨⟨h.1.1, by
  rcases h.1.2 with e | ⟨g', c', cur, e, h1, r⟩
  · exact Or.inl e
  · exact Or.inr ⟨g', c', cur, e, Nat.le_trans hb h1, r⟩⟩, h.2⟩
/-- What stays where a round's book-keeping alone turns. -/
theorem keep_of_grown {A B : World} {row : Option Nat} (hg : A.grownBy B row) : Keep (fun k => row = some k) A B := ⟨hg.os, hg.tape, hg.output, hg.size, fun k hk hn => hg.block k hk (fun e => hn e.symm)⟩
theorem not_row {A : World} {row : Option Nat} {k : Nat} {cur : Array Value} {t : TypeId} {fr : Nat × Nat} {n : Nat} (h : A.heap[k]? = some (.cells cur t fr)) (hr : ∀ r, row = some r → n ≤ r ∧ ∃ o : Obj, A.heap[r]? = some o ∧ o.isCells = false) : ¬ row = some k := fun e => by
  obtain ⟨_, o, h1, h2⟩ := hr k e
  rw [h] at h1
  injection h1 with h1
  subst h1
  cases h2
theorem boxed_below {W W' : World} {B : Nat} {t : TypeId} {v : Value} (h : Boxed W B t v) (hb : Below W.heap.size W W') : Boxed W' B t v := (hb.block B h.lt).trans h
theorem below_keeps {W W' : World} (hb : Below W.heap.size W W') : KeepsOthers W W' := KeepsOthers.of_grownBy (grown_below hb none) (fun j o e => by cases e)
/-- A block of a write reads as bytes. -/
theorem wr_reads {W : World} {Bx : Nat} {p : Nat × List Int} (hX : W.heap[Bx]? = some (.cells (wrow p).toArray 117 (0, 0))) (h : IsBlk p.2) : RdB W W.heap.size (some ⟨Bx, 1, none⟩) p.2 := fun k hk => by
  refine ⟨Bx, 1, rfl, (Array.getElem?_eq_some_iff.1 hX).1, ?_, h.2 k hk⟩
  rw [cell_of_row _ _ _ _ _ _ hX, Nat.add_comm]
  unfold wrow
  have := vals_at p.2 k hk
  simpa using this
theorem boxed_put {W : World} {B D : Nat} {t : TypeId} {v : Value} (b : Boxed W B t v) (hK : W.heap[D]? = some (.deferred (some []))) : Boxed (W.putObj D (.deferred none)) B t v :=
  b.kept (grownBy_putObj' W D (.deferred none)) (fun e => by injection e with e; rw [← e] at hK; rw [show W.heap[B]? = _ from b] at hK; injection hK with hK; cases hK)
theorem own_put {W : World} {base gn cn D : Nat} {xs : List Int} (h : Own W base gn cn xs) (hK : W.heap[D]? = some (.deferred (some []))) : Own (W.putObj D (.deferred none)) base gn cn xs := by
  refine (keep_of_grown (grownBy_putObj' W D (.deferred none))).own h (fun e => ?_)
  injection e with e
  obtain ⟨cur, e5⟩ := h.heap
  rw [← e, hK] at e5
  injection e5 with e5
  cases e5
theorem below_put {w W : World} {D : Nat} (hB : Below w.heap.size w W) (hD : w.heap.size ≤ D) (hK : W.heap[D]? = some (.deferred (some []))) : Below w.heap.size w (W.putObj D (.deferred none)) :=
  hB.trans (belowK_b (w := w) (Nat.le_refl _) W D _ _ hD hK rfl rfl)
theorem readE_not {s : Dk} {i : Int} {w w' : World} (h : i < 0 ∨ s.blk.length ≤ i ∨ s.read i.toNat = none) : ReadE s i w (.returned (.tuple #[.slice none 0 0, .bool false])) w' := Or.inr ⟨h, rfl⟩
set_option maxRecDepth 100000 in
set_option maxHeartbeats 4000000 in
theorem read_any (F : Nat → Prop) (b : Nat) (s : Dk) (g cb : Nat) (A : Option Addr) (c : Nat) (i : Int) (w : World) (h : Lay w F b s g cb A c) (h0 : -9223372036854775808 ≤ i) (h1 : i ≤ 9223372036854775807) (hw : s.wt.length ≤ 1000000) :
    Calls Try.prog 52 #[.pointer (some ⟨b, 0, none⟩), .int .i64 i] w fun e w' => ReadE s i w e w' ∧ Below w.heap.size w w' := by
  have c0 : w.cell? ⟨b, 0, none⟩ = some (.slice (some ⟨g, 0, none⟩) s.blk.length cb) := h.st.cell 0
  have c1 : w.cell? ⟨b, 1, none⟩ = some (.slice A s.wt.length c) := h.st.cell 1
  have c3 : w.cell? ⟨b, 3, none⟩ = some (.bool s.off) := h.st.cell 3
  have hbl := h.st.lt
  have n2 := h.ok.n2
  have H := Lib.hid h
  clear h
  refine (callsIn_wide (n := 5)).1 ?_
  refine callsIn_of_wp_marks Try.func52 rfl trivial ?_ rfl
  simp only [Try.ntmps52, List.size_toArray, List.length_cons, List.length_nil, Nat.reduceAdd, Nat.reduceSub, Array.replicate_succ, Array.replicate_zero, List.push_toArray, List.append_toArray, List.nil_append, List.cons_append]
  refine wpIn_wide.2 ?_
  go_upto_region 1 with fail
  have bI := ((Boxed.new w 3 (.int .i64 i)).alloc (.cells #[.slice none 0 0] 30)).alloc (.cells #[.bool false] 4)
  have bR := (Boxed.new (w.alloc (.cells #[.int .i64 i] 3)) 30 (.slice none 0 0)).alloc (.cells #[.bool false] 4)
  have bO := Boxed.new ((w.alloc (.cells #[.int .i64 i] 3)).alloc (.cells #[.slice none 0 0] 30)) 4 (.bool false)
  simp only [World.size_alloc] at bR bO
  have hB1 : Below w.heap.size w (((w.alloc (.cells #[.int .i64 i] 3)).alloc (.cells #[.slice none 0 0] 30)).alloc (.cells #[.bool false] 4)) := (((Below.refl _ w).alloc (Nat.le_refl _) _).alloc (by simp) _).alloc (by simp; omega) _
  have hs1 : (((w.alloc (.cells #[.int .i64 i] 3)).alloc (.cells #[.slice none 0 0] 30)).alloc (.cells #[.bool false] 4)).heap.size = w.heap.size + 3 := by simp
  generalize ((w.alloc (.cells #[.int .i64 i] 3)).alloc (.cells #[.slice none 0 0] 30)).alloc (.cells #[.bool false] 4) = W1 at *
  have d0 := (hB1.cell (p := ⟨b, 0, none⟩) hbl).trans c0
  have d1 := (hB1.cell (p := ⟨b, 1, none⟩) hbl).trans c1
  have d3 := (hB1.cell (p := ⟨b, 3, none⟩) hbl).trans c3
  have HB1 := Lib.hid hB1; have BI := Lib.hid bI; have BR := Lib.hid bR; have BO := Lib.hid bO
  have xi := bI.cell; have xr := bR.cell; have xo := bO.cell; have zr := bR.frozen; have zo := bO.frozen
  clear hB1 bI bR bO c0 c1 c3
  generalize hN : w.heap.size = N at *
  have HN := Lib.hid hN
  clear hN
  cases ho : s.off
  · rw [ho] at d3
    go_wp2_with fail
    have HS := Lib.hid (has_any W1 b s.blk.length _ cb i d0 n2 h0 h1)
    refine HS.out.mono ?_
    rintro e w' ⟨rfl, rfl⟩
    by_cases t0 : 0 ≤ i ∧ i < (s.blk.length : Int)
    · have e0 : decide (0 ≤ i ∧ i < (s.blk.length : Int)) = true := by simpa using t0
      rw [e0]
      have T0 := Lib.hid t0
      clear HS e0 t0
      go_wp2_with fail
      refine (back_any A s.wt.length c w').mono ?_
      rintro e W2 ⟨rfl, hW2⟩
      rw [hs1]
      obtain ⟨m, rfl⟩ := Int.eq_ofNat_of_zero_le T0.out.1
      have sW : W2.heap.size = N + 4 := by rw [hW2]; simp; omega
      have bI := BI.out.alloc (.cells #[.slice A s.wt.length c] 67)
      have bR := BR.out.alloc (.cells #[.slice A s.wt.length c] 67)
      have bO := BO.out.alloc (.cells #[.slice A s.wt.length c] 67)
      have bS := Boxed.new w' 67 (.slice A s.wt.length c)
      have hB2 : Below N w (w'.alloc (.cells #[.slice A s.wt.length c] 67)) := HB1.out.alloc (by omega) _
      rw [hs1] at bS
      rw [← hW2] at bI bR bO bS hB2
      have hBk := fun p hp => (H.out.ok.wts p hp).2
      have hAl : ∀ a, A = some a → a.block < W2.heap.size := fun a ha => by have := (H.out.rw'.lt a ha).2; have := HN.out; omega
      have hrow : RowN W2 0 117 129 A s.wt.length c (wl s.wt).flatten := H.out.rw'.same (fun a ha => hB2.block _ (by have := (H.out.rw'.lt a ha).2; have := HN.out; omega))
      have SQ := Lib.hid (back_stops Fence.wide (5 - 1) trivial rfl (by decide) (N + 3) W2.heap.size c A s.wt hBk hw (by omega) W2 (Nat.le_refl _) hAl bS.cell hrow)
      clear hAl hrow hW2 xi xr xo zr zo d0 d1 d3
      obtain ⟨Z, hz, hzs⟩ := zero_write_run
      go_wp2_with fail
      refine (wpIn_wide (n := 5)).1 ?_
      refine wpIn_rangeFunc_ownH (F := Fence.wide) rfl (by decide) (gf := 80) (lb := #[.pointer (some ⟨N + 3, 0, none⟩)]) rfl trivial (enters_of Try.func80 (by kernel_rfl) rfl)
        SQ.out belowK_t (belowK_b (Nat.le_refl _)) (Below.refl _ _) (fun _ => rfl)
        (fun pre W => (((((∀ x, x ∈ pre → x.2.1.1 ≠ m) ∧ Boxed W N 3 (.int .i64 (m : Int))) ∧ Boxed W (N + 1) 30 (.slice none 0 0)) ∧ Boxed W (N + 1 + 1) 4 (.bool false)) ∧ Boxed W (N + 3) 67 (.slice A s.wt.length c)) ∧ Below N w W)
        (fun c pre W => c = .ret ∧ (∃ (ini : List Wt) (last : Wt), pre = ini ++ [last] ∧ (∀ x, x ∈ ini → x.2.1.1 ≠ m) ∧ last.2.1.1 = m ∧ ∃ gn cn, Own W N gn cn last.2.1.2 ∧ Boxed W (N + 1) 30 (.slice (some ⟨gn, 0, none⟩) 128 cn) ∧ Boxed W (N + 1 + 1) 4 (.bool true)) ∧ Below N w W)
        (OwnFrom.and (OwnFrom.and (OwnFrom.and (OwnFrom.and (OwnFrom.and (ownFrom_pure _ _) (Go.Own.from (boxed_own _ _ (fun _ => _)) _)) (Go.Own.from (boxed_own _ _ (fun _ => _)) _)) (Go.Own.from (boxed_own _ _ (fun _ => _)) _)) (Go.Own.from (boxed_own _ _ (fun _ => _)) _)) (ownFrom_below (by have := HN.out; omega) (by omega)))
        ?hix
        ⟨⟨⟨⟨⟨(fun x hx => (by cases hx)), bI⟩, bR⟩, bO⟩, bS⟩, hB2⟩
        (fun x a' W => ∃ Bx, N + 4 ≤ Bx ∧ W.heap[Bx]? = some (.cells (wrow x.2.1).toArray 117 (0, 0)) ∧ a' = { tmps := #[.pointer (some ⟨b, 0, none⟩), .int .i64 (m : Int), undef, .pointer (some ⟨N, 0, none⟩), .pointer (some ⟨N + 1, 0, none⟩), .pointer (some ⟨N + 1 + 1, 0, none⟩), undef, .pointer (some ⟨Bx, 0, none⟩), .pointer (some ⟨b, 0, none⟩), .pointer (some ⟨b, 0, none⟩), .pointer (some ⟨b, 3, none⟩), .bool false, .bool false, .pointer (some ⟨b, 0, none⟩), .int .i64 (m : Int), .bool true, .bool false, .bool false, .pointer (some ⟨b, 0, none⟩), .pointer (some ⟨b, 0, none⟩), .pointer (some ⟨b, 1, none⟩), .slice A s.wt.length c, .func (.func 80) #[] #[.pointer (some ⟨N + 3, 0, none⟩)], .int .i64 (x.1 : Int), .agg (wrow x.2.1).toArray, undef, undef, undef, undef, undef, undef, undef, undef, undef, undef, undef, undef, undef, undef, undef, undef, undef, undef, undef, undef, undef, undef, undef, undef], defers := [] })
        (fun x a' _ X Y row hs hg hr => by obtain ⟨Bx, h1, h2, h3⟩ := hs; exact ⟨Bx, h1, (hg.block Bx (Array.getElem?_eq_some_iff.1 h2).1 (fun e => not_row h2 hr e.symm)).trans h2, h3⟩)
        ?assign ?body ?done ?stop
      case hix =>
        intro c' pre X Y row hs hg hr
        obtain ⟨e1, ⟨ini, last, e2, e3, e4, gn, cn, ho, b4, b5⟩, hb⟩ := hs
        refine ⟨e1, ⟨ini, last, e2, e3, e4, gn, cn, ?_, ?_, ?_⟩, ?_⟩
        · obtain ⟨cur, e5⟩ := ho.heap
          exact (keep_of_grown hg).own ho (not_row e5 hr)
        · exact b4.kept hg (fun e => not_row b4 hr e.symm)
        · exact b5.kept hg (fun e => not_row b5 hr e.symm)
        · exact ownFrom_below (β := Unit) (n₀ := N) (B := W2.heap.size) (w₀ := w) (by have := HN.out; omega) (by omega) () X Y row hb hg hr
      case assign =>
        rintro l pre ⟨xk, ⟨⟨p, ys⟩, hys⟩⟩ W K hi hK
        obtain ⟨⟨⟨⟨⟨hp, bI1⟩, bR1⟩, bO1⟩, bS1⟩, hB1⟩ := hi
        have st := store_new W Z hzs _ (wrow_len (p, ys) hys) (wrow_one _)
        have hvl := wrow_len (p, ys) hys
        have lS := bS1.lt
        have sz : N ≤ W.heap.size := by omega
        have HK := Lib.hid hK; have HI := Lib.hid (And.intro bI1 (And.intro bR1 (And.intro bO1 (And.intro bS1 (And.intro hB1 hp)))))
        clear hK bI1 bR1 bO1 bS1 hB1 hp
        unfold wtEncs
        dsimp only at *
        obtain ⟨V, hV⟩ : ∃ V, wrow (p, ys) = V := ⟨_, rfl⟩
        have HV := Lib.hid hV
        rw [hV] at st hvl ⊢
        clear hV
        gi_wp2
        obtain ⟨bI1, bR1, bO1, bS1, hB1, hp⟩ := HI.out
        refine HK.out _ _ ((KeepsOthers.alloc _ _).from _) ((Below.refl _ W).alloc (by omega) _) ⟨⟨⟨⟨⟨hp, bI1.alloc _⟩, bR1.alloc _⟩, bO1.alloc _⟩, bS1.alloc _⟩, hB1.alloc sz _⟩ ⟨W.heap.size, by omega, ?_, ?_⟩
        · rw [HV.out]; exact heap_alloc_new W _
        · rw [HV.out]
      case body =>
        rintro l pre ⟨xk, ⟨⟨p, ys⟩, hys⟩⟩ a' W hl ⟨r, hr⟩ hi ⟨Bx, hBx, hX, rfl⟩ hlt
        obtain ⟨⟨⟨⟨⟨hp, bI1⟩, bR1⟩, bO1⟩, bS1⟩, hB1⟩ := hi
        dsimp only at *
        have xi := bI1.cell
        have xx : W.cell? ⟨Bx, 0, none⟩ = some (.int .i64 (p : Int)) := by rw [cell_of_row _ _ _ _ _ _ hX]; rfl
        have lB := bO1.lt
        by_cases e : p = m
        · subst e
          have te : ((p : Int) == (p : Int)) = true := by simp
          have CL := Lib.hid (fun n => CallsIn.inRound l (callsIn_wide (n := n).2 (clone_bytes W.heap.size ⟨Bx, 1, none⟩ 128 ys W (wr_reads hX hys) (Nat.le_refl _) hys.1)))
          have HI := Lib.hid (And.intro bI1 (And.intro bR1 (And.intro bO1 (And.intro bS1 (And.intro hB1 hp)))))
          clear bI1 bR1 bO1 bS1 hB1 hp hX
          generalize (wrow (p, ys)).toArray = V at *
          gi_wp2_with fail
          refine ⟨trivial, (CL.out _).mono ?_⟩
          rintro e w2 ⟨gn, cn, rfl, hown, hbel⟩
          obtain ⟨bI1, bR1, bO1, bS1, hB1, hp⟩ := HI.out
          have bR2 := boxed_below bR1 hbel
          have bO2 := boxed_below bO1 hbel
          have xr := bR2.cell; have zr := bR2.frozen; have xo := bO2.cell; have zo := bO2.frozen
          have KO := Lib.hid (below_keeps hbel)
          have sz : N + 1 + 1 < W.heap.size := lB
          have HO := Lib.hid hown; have BR2 := Lib.hid bR2; have BO2 := Lib.hid bO2
          have HB2 : Hid (Below N w w2) := Lib.hid (hB1.trans (hbel.mono (by omega)))
          clear hown bR2 bO2 hbel bI1 bR1 bO1 bS1 hB1
          gi_wp2
          have g1 := HO.out.lt
          refine ⟨((KO.out.trans (KeepsOthers.setCell _ _ _)).trans (KeepsOthers.setCell _ _ _)).from _, rfl, ⟨pre, _, rfl, hp, rfl, gn, cn, ?_, ?_, ?_⟩, ?_⟩
          · exact (((HO.out.lower (base' := N) (by omega)).far (by omega) _).far (by omega) _)
          · exact (BR2.out.set _).other (by omega) _
          · exact (BO2.out.other (by omega) _).set _
          · exact (HB2.out.setCell (p := ⟨N + 1, 0, none⟩) (by show N ≤ N + 1; omega) _).setCell (p := ⟨N + 1 + 1, 0, none⟩) (by show N ≤ N + 1 + 1; omega) _
        · have te : ((p : Int) == (m : Int)) = false := by simp; omega
          have HI := Lib.hid (And.intro bI1 (And.intro bR1 (And.intro bO1 (And.intro bS1 (And.intro hB1 hp)))))
          clear bI1 bR1 bO1 bS1 hB1 hp hX
          generalize (wrow (p, ys)).toArray = V at *
          gi_wp2
          obtain ⟨bI1, bR1, bO1, bS1, hB1, hp⟩ := HI.out
          refine ⟨KeepsFrom.refl _ _, Below.refl _ _, ⟨⟨⟨⟨fun x hx => ?_, bI1⟩, bR1⟩, bO1⟩, bS1⟩, hB1⟩
          rcases List.mem_append.1 hx with hx | hx
          · exact hp x hx
          · have hx := List.mem_singleton.1 hx
            rw [hx]; exact e
      case done =>
        rintro D xs W hD rfl hi hK
        obtain ⟨⟨⟨⟨⟨hp, bI1⟩, bR1⟩, bO1⟩, bS1⟩, hB1⟩ := hi
        have LN : Hid (lastFor s.wt m = none) := Lib.hid (come_none s.wt hBk m hp)
        have hmn : m < s.blk.length := by have := T0.out.2; omega
        have hgl : g < N := by have := (H.out.rb.lt _ rfl).2; have e : g < w.heap.size := this; have := HN.out; omega
        have d0 : W.cell? ⟨b, 0, none⟩ = some (.slice (some ⟨g, 0, none⟩) s.blk.length cb) := (hB1.cell (p := ⟨b, 0, none⟩) hbl).trans (H.out.st.cell 0)
        have rg := H.out.rb.range (bl_even H.out.ok) (bl_len H.out.ok) m hmn
        rw [bl_getD H.out.ok m hmn] at rg
        have hx := H.out.ok.blks m hmn
        have yt : W.cell? ⟨g, m * 129 + 128, none⟩ = some (.bool (s.bad.getD m false)) := (hB1.cell (p := ⟨g, m * 129 + 128, none⟩) hgl).trans (rg 128 _ (by rw [List.getElem?_append_right (by rw [vals_length, hx.1]; exact Nat.le_refl _), vals_length, hx.1]; rfl))
        have rd : RdB W W.heap.size (some ⟨g, m * 129, none⟩) (s.blk.getD m []) := fun k hk => ⟨g, m * 129, rfl, by have := hB1.size; have := HN.out; omega, by
          rw [hB1.cell (p := ⟨g, m * 129 + k, none⟩) hgl]
          exact rg k _ (by rw [List.getElem?_append_left (by rw [vals_length]; exact hk), vals_at _ _ hk]), hx.2 k hk⟩
        have xi := bI1.cell
        have xr := bR1.cell; have zr := bR1.frozen; have xo := bO1.cell; have zo := bO1.frozen
        have m0 : (0 : Int) ≤ (m : Int) := by omega
        have m1 : (m : Int) < (s.blk.length : Int) := by omega
        have RDD : Hid (s.read (m : Int).toNat = if s.bad.getD m false then none else some (s.blk.getD m [])) := Lib.hid (by
          unfold Dk.read
          rw [ho, Int.toNat_natCast, LN.out]
          rfl)
        have RD := Lib.hid rd; have HX := Lib.hid hx; have BR1 := Lib.hid bR1; have BO1 := Lib.hid bO1; have HBW := Lib.hid hB1; have HK := Lib.hid hK
        have sD : N + 4 ≤ D := by omega
        clear rg rd hx bI1 bR1 bO1 bS1 hB1 hp hK hmn bI bR bO bS hB2 SQ
        generalize hlen : s.blk.length = len at *
        generalize htb : s.bad.getD m false = tb at *
        have HTB := Lib.hid htb; have HLEN := Lib.hid hlen
        clear htb hlen
        have KD : Hid (∀ v u, ((W.setCell ⟨N + 1, 0, none⟩ v).setCell ⟨N + 1 + 1, 0, none⟩ u).heap[D]? = some (.deferred (some []))) := Lib.hid (fun v u => by
          rw [Below.heap_setCell _ _ _ _ (fun e => by have e : D = N + 1 + 1 := e; omega), Below.heap_setCell _ _ _ _ (fun e => by have e : D = N + 1 := e; omega)]
          exact HK.out)
        go_wp2_with fail
        refine wp_region_noPanic ?_
        go_region_held_law (fun w' => w'.cell? ⟨b, 0, none⟩ = some (.slice (some ⟨g, 0, none⟩) len cb) ∧ w'.cell? ⟨N, 0, none⟩ = some (.int .i64 (m : Int)) ∧ w'.cell? ⟨g, m * 129 + 128, none⟩ = some (.bool tb)) (exact ⟨d0, xi, yt⟩) (fail)
        refine NoPanic.normal ?_
        cases tb
        · go_wp2_with fail
          have CL := Lib.hid (clone_bytes W.drew.heap.size ⟨g, m * 129, none⟩ 128 (s.blk.getD m []) W.drew (fun k hk => RD.out k hk) (Nat.le_refl _) HX.out.1)
          clear CL
          refine wp_region_noPanic ?_
          have hsz : N + 1 + 1 < W.heap.size := BO1.out.lt
          go_region_held_law (fun w' => w'.cell? ⟨b, 0, none⟩ = some (.slice (some ⟨g, 0, none⟩) len cb) ∧ w'.cell? ⟨N, 0, none⟩ = some (.int .i64 (m : Int)))
            (first | exact ⟨d0, xi⟩ | exact ⟨q0, qi⟩ | exact ⟨(World.cell?_setCell_far _ _ _ _ (by show N + 1 ≠ b; omega)).trans q0, (World.cell?_setCell_far _ _ _ _ (by show N + 1 ≠ N; omega)).trans qi⟩ | exact ⟨(World.cell?_setCell_far _ _ _ _ (by show N + 1 + 1 ≠ b; omega)).trans ((World.cell?_setCell_far _ _ _ _ (by show N + 1 ≠ b; omega)).trans q0), (World.cell?_setCell_far _ _ _ _ (by show N + 1 + 1 ≠ N; omega)).trans ((World.cell?_setCell_far _ _ _ _ (by show N + 1 ≠ N; omega)).trans qi)⟩)
            ((go_at_call 39; refine (clone_bytes W.drew.drew.heap.size ⟨g, m * 129, none⟩ 128 (s.blk.getD m []) W.drew.drew (fun k hk => RD.out k hk) (Nat.le_refl _) HX.out.1).mono ?_; rintro e w2 ⟨gn, cn, rfl, hown, hbel⟩; have q0 := (hbel.cell (p := ⟨b, 0, none⟩) (by show b < W.heap.size; omega)).trans d0; have qi := (hbel.cell (p := ⟨N, 0, none⟩) (by show N < W.heap.size; omega)).trans xi; have bR2 := boxed_below (W := W.drew.drew) BR1.out hbel; have bO2 := boxed_below (W := W.drew.drew) BO1.out hbel; have xr2 := bR2.cell; have zr2 := bR2.frozen; have xo2 := bO2.cell; have zo2 := bO2.frozen))
          refine NoPanic.normal ?_
          go_wp2
          have lD : D < W.heap.size := (Array.getElem?_eq_some_iff.1 HK.out).1
          have hK2 : ((w2.setCell ⟨N + 1, 0, none⟩ (.slice (some ⟨gn, 0, none⟩) 128 cn)).setCell ⟨N + 1 + 1, 0, none⟩ (.bool true)).heap[D]? = some (.deferred (some [])) := by
            rw [Below.heap_setCell _ _ _ _ (fun e => by have e : D = N + 1 + 1 := e; omega), Below.heap_setCell _ _ _ _ (fun e => by have e : D = N + 1 := e; omega), hbel.block D lD]
            exact HK.out
          have g1 := hown.lt
          have g1 : W.heap.size ≤ gn := g1.1
          refine ⟨by simp, .inl ⟨_, _, rfl, run_takeDeferred hK2, ?_⟩⟩
          have b4 := boxed_put ((bR2.set (.slice (some ⟨gn, 0, none⟩) 128 cn)).other (B' := N + 1 + 1) (by omega) (.bool true)) hK2
          have b5 := boxed_put ((bO2.other (B' := N + 1) (by omega) (.slice (some ⟨gn, 0, none⟩) 128 cn)).set (.bool true)) hK2
          refine ⟨_, results_read _ _ (N + 1) (N + 1 + 1) _ _ rfl rfl b4.cell b5.cell, Or.inl ⟨s.blk.getD m [], gn, cn, T0.out.1, by rw [HLEN.out]; exact m1, ?_, rfl, ?_⟩, below_put ?_ (by have := HN.out; omega) hK2⟩
          · rw [RDD.out]; simp
          · rw [HN.out]
            have hl : Own w2 N gn cn (s.blk.getD m []) := Own.lower (base := W.heap.size) hown (by omega)
            exact own_put ((hl.far (h := N + 1) (k := 0) (by omega) _).far (h := N + 1 + 1) (k := 0) (by omega) _) hK2
          · rw [HN.out]
            have hb2 : Below N w w2 := (HBW.out.drew.drew).trans (hbel.mono (by show N ≤ W.heap.size; omega))
            exact (hb2.setCell (p := ⟨N + 1, 0, none⟩) (by show N ≤ N + 1; omega) _).setCell (p := ⟨N + 1 + 1, 0, none⟩) (by show N ≤ N + 1 + 1; omega) _
        · go_wp2
          have hK2 := KD.out (.slice none 0 0) (.bool false)
          refine ⟨by simp, .inl ⟨_, _, rfl, run_takeDeferred hK2, ?_⟩⟩
          have b4 := boxed_put (W := ((W.setCell ⟨N + 1, 0, none⟩ (.slice none 0 0)).setCell ⟨N + 1 + 1, 0, none⟩ (.bool false)).drew) ((BR1.out.set (.slice none 0 0)).other (B' := N + 1 + 1) (by omega) (.bool false)) hK2
          have b5 := boxed_put (W := ((W.setCell ⟨N + 1, 0, none⟩ (.slice none 0 0)).setCell ⟨N + 1 + 1, 0, none⟩ (.bool false)).drew) ((BO1.out.other (B' := N + 1) (by omega) (.slice none 0 0)).set (.bool false)) hK2
          refine ⟨_, results_read _ _ (N + 1) (N + 1 + 1) _ _ rfl rfl b4.cell b5.cell, readE_not (Or.inr (Or.inr ?_)), below_put ?_ (by have := HN.out; omega) hK2⟩
          · rw [RDD.out]; simp
          · rw [HN.out]
            exact ((HBW.out.setCell (p := ⟨N + 1, 0, none⟩) (by show N ≤ N + 1; omega) _).setCell (p := ⟨N + 1 + 1, 0, none⟩) (by show N ≤ N + 1 + 1; omega) _).drew
      case stop =>
        rintro D c' pre W hD ⟨k, hk, rfl⟩ ⟨rfl, ⟨ini, last, e2, e3, e4, gn, cn, hown, b4, b5⟩, hB1⟩ hK
        have LA := Lib.hid (come_at s.wt hBk m k ini last hk e2 e3 e4)
        refine wpIn_wide.2 ?_
        go_wp2
        refine ⟨by simp, .inl ⟨_, _, rfl, run_takeDeferred hK, ?_⟩⟩
        have b4' := b4.kept (grownBy_putObj' W D (.deferred none)) (fun e => by injection e with e; rw [← e] at hK; rw [show W.heap[N + 1]? = _ from b4] at hK; injection hK with hK; cases hK)
        have b5' := b5.kept (grownBy_putObj' W D (.deferred none)) (fun e => by injection e with e; rw [← e] at hK; rw [show W.heap[N + 1 + 1]? = _ from b5] at hK; injection hK with hK; cases hK)
        refine ⟨_, results_read _ _ (N + 1) (N + 1 + 1) _ _ rfl rfl b4'.cell b5'.cell, Or.inl ⟨last.2.1.2, gn, cn, T0.out.1, T0.out.2, ?_, rfl, ?_⟩, ?_⟩
        · unfold Dk.read
          rw [ho]
          show (match lastFor s.wt (m : Int).toNat with | some b => some b | none => _) = _
          rw [Int.toNat_natCast, LA.out]
        · rw [HN.out]
          refine (keep_of_grown (grownBy_putObj' W D (.deferred none))).own hown (fun e => ?_)
          injection e with e
          obtain ⟨cur, e5⟩ := hown.heap
          rw [← e, hK] at e5
          injection e5 with e5
          cases e5
        · rw [HN.out]
          exact hB1.trans (belowK_b (w := w) (by have := HN.out; omega) W D _ _ (by have := HN.out; omega) hK rfl rfl)
    · have e0 : decide (0 ≤ i ∧ i < (s.blk.length : Int)) = false := by simpa using t0
      rw [e0]
      have T0 := Lib.hid t0
      clear HS e0 t0
      go_wp2
      have y4 := ((BR.out.set (.slice none 0 0)).other (B' := N + 1 + 1) (by omega) (.bool false))
      have y5 := ((BO.out.other (B' := N + 1) (by omega) (.slice none 0 0)).set (.bool false))
      refine ⟨_, results_read _ _ (N + 1) (N + 1 + 1) _ _ rfl rfl y4.cell y5.cell, ?_, ?_⟩
      · exact readE_not (by have := T0.out; omega)
      · rw [HN.out]
        exact (HB1.out.setCell (p := ⟨N + 1, 0, none⟩) (by show N ≤ N + 1; omega) _).setCell (p := ⟨N + 1 + 1, 0, none⟩) (by show N ≤ N + 1 + 1; omega) _
  · rw [ho] at d3
    have RN : Hid (s.read i.toNat = none) := Lib.hid (by unfold Dk.read; rw [ho]; rfl)
    go_wp2
    have y4 := ((BR.out.set (.slice none 0 0)).other (B' := N + 1 + 1) (by omega) (.bool false))
    have y5 := ((BO.out.other (B' := N + 1) (by omega) (.slice none 0 0)).set (.bool false))
    refine ⟨_, results_read _ _ (N + 1) (N + 1 + 1) _ _ rfl rfl y4.cell y5.cell, ?_, ?_⟩
    · exact readE_not (Or.inr (Or.inr RN.out))
    · rw [HN.out]
      exact (HB1.out.setCell (p := ⟨N + 1, 0, none⟩) (by show N ≤ N + 1; omega) _).setCell (p := ⟨N + 1 + 1, 0, none⟩) (by show N ≤ N + 1 + 1; omega) _
end Go.Proofs.Ytilmicekpclmbaa
namespace Go.Proofs.Ytilmicekpclmbaa
set_option linter.unusedVariables false
set_option linter.unusedSimpArgs false
open Go.RowKit

theorem disk_write (F b s) (i c N : Nat) (A : Option Addr) (xs : List Int) (w : World) (h : DiskAt w F b s) (hi : i < s.blk.length) (hx : IsBlk xs) (hr : RdB w N A xs) (hN : N ≤ w.heap.size) (hA : ∀ a, A = some a → ¬ F a.block) (hw : s.wt.length ≤ 1000000) (hv : s.wrote ≤ 1000000000000) : Calls Try.prog 45 #[.pointer (some ⟨b, 0, none⟩), .int .i64 i, .slice A 128 c] w fun e w' => e = .returned (.int .i64 s.says) ∧ Step F b (s.write i xs) w w' := by
  obtain ⟨g, cb, A', c', h⟩ := h
  exact write_any F b s g cb A' c' i c N A xs w h hi hx hr hN hA hw hv
theorem disk_refuse (F b s) (i : Int) (n c : Nat) (A : Option Addr) (w : World) (h : DiskAt w F b s) (h0 : -9223372036854775808 ≤ i) (h1 : i ≤ 9223372036854775807) (hn : n ≤ maxLen) (hi : i < 0 ∨ s.blk.length ≤ i ∨ n ≠ 128) : Calls Try.prog 45 #[.pointer (some ⟨b, 0, none⟩), .int .i64 i, .slice A n c] w fun e w' => e = .returned (.int .i64 1) ∧ Step F b s w w' := by
  have h' := h
  obtain ⟨g, cb, A', c', h⟩ := h
  refine (refuse_any F b s g cb A' c' i n c A w h h0 h1 hn hi).mono ?_
  rintro e w' ⟨rfl, rfl⟩
  exact ⟨rfl, Step.same h'⟩
theorem disk_flush (F b s) (w : World) (h : DiskAt w F b s) (hw : s.wt.length ≤ 1000000) : Calls Try.prog 46 #[.pointer (some ⟨b, 0, none⟩)] w fun e w' => e = .returned (.int .i64 s.says) ∧ Step F b s.flush w w' := by
  obtain ⟨g, cb, A', c', h⟩ := h
  exact flush_any F b s g cb A' c' w h hw
def ReadL (F : Nat → Prop) (b : Nat) (s : Dk) (xs : List Int) (w : World) (e : Ending) (w' : World) : Prop :=
  ∃ g c, e = .returned (.tuple #[.slice (some ⟨g, 0, none⟩) 128 c, .bool true]) ∧ Own w' w.heap.size g c xs ∧ ∃ F', DiskAt w' F' b s ∧ Keep F w w' ∧ Sub F' F w ∧ ¬ F' g
theorem disk_read (F b s) (i : Nat) (xs : List Int) (w : World) (h : DiskAt w F b s) (hi : i < s.blk.length) (hx : s.read i = some xs) (hw : s.wt.length ≤ 1000000) : Calls Try.prog 52 #[.pointer (some ⟨b, 0, none⟩), .int .i64 i] w (ReadL F b s xs w) := by
  have h' := h
  obtain ⟨g, cb, A', c', h⟩ := h
  refine (read_any F b s g cb A' c' i w h (by omega) (by have := h.ok.n2; omega) hw).mono ?_
  rintro e w' ⟨⟨ys, gn, cn, _, _, h1, rfl, ho⟩ | ⟨h1, _⟩, hb⟩
  · rw [Int.toNat_natCast, hx] at h1
    injection h1 with h1
    subst h1
    refine ⟨gn, cn, rfl, ho, F, h'.stay (fun k hk => hb.block k (h'.lt k hk)), Keep.of_below hb, Sub.refl _ _, fun hk => ?_⟩
    have := h'.lt gn hk
    have := ho.lt.1
    omega
  · rw [Int.toNat_natCast, hx] at h1
    rcases h1 with h1 | h1 | h1
    · omega
    · omega
    · cases h1
theorem disk_unread (F b s) (i : Int) (w : World) (h : DiskAt w F b s) (h0 : -9223372036854775808 ≤ i) (h1 : i ≤ 9223372036854775807) (hi : i < 0 ∨ s.blk.length ≤ i ∨ s.read i.toNat = none) (hw : s.wt.length ≤ 1000000) : Calls Try.prog 52 #[.pointer (some ⟨b, 0, none⟩), .int .i64 i] w fun e w' => e = .returned (.tuple #[.slice none 0 0, .bool false]) ∧ Step F b s w w' := by
  have h' := h
  obtain ⟨g, cb, A', c', h⟩ := h
  refine (read_any F b s g cb A' c' i w h h0 h1 hw).mono ?_
  rintro e w' ⟨⟨ys, gn, cn, h2, h3, h4, _⟩ | ⟨_, rfl⟩, hb⟩
  · rcases hi with hi | hi | hi
    · omega
    · omega
    · rw [hi] at h4; cases h4
  · exact ⟨rfl, F, h'.stay (fun k hk => hb.block k (h'.lt k hk)), Keep.of_below hb, Sub.refl _ _⟩
end Go.Proofs.Ytilmicekpclmbaa
