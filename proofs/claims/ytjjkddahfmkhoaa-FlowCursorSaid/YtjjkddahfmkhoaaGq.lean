/-
  The walk of the statement FlowCursor: the call returns true; nothing that was in memory turns.
-/
import Derived.Test.YtjjkddahfmkhoaaGp
namespace Go.Proofs.Ytjjkddahfmkhoaa
set_option linter.unusedVariables false
set_option linter.unusedSimpArgs false
set_option maxRecDepth 100000
open Go.RowKit Go.Shelf
attribute [local go_sem] Oper.semAt_some

theorem fres_c (T : Array Value) (w : World) (p : Nat) (v : Value) (h4 : T.getD 4 undef = .pointer (some ⟨p, 0, none⟩)) (c4 : w.cell? ⟨p, 0, none⟩ = some v) : (results Try.f8 T).run Try.prog w = .ok v w := by
  have e : Try.f8.results = #[.cell 4 4] := rfl
  rw [Array.getD_eq_getD_getElem?] at h4
  unfold results
  rw [e]
  simp [go_sem, h4, c4]
theorem curE_nil {Bk : Nat → Prop} {rb : Nat} {w w' : World} {e : Ending} (h : CurE Bk rb [] w e w') : True ∧ e = .returned (.tuple #[.int .i64 0, .bool false]) ∧ w = w' := by
  rcases h with ⟨-, h1, h2⟩ | ⟨x, r, h, _⟩
  · exact ⟨trivial, h1, h2.symm⟩
  · cases h
/-- One of the rows that rise is found among them. -/
theorem jfind_own {xs : List Int} (hx : xs.Pairwise (· < ·)) {pre post : List Int} {a : Int} {k : Nat} (h : pre ++ a :: post = xs.take k) : jfind xs pre a = some a := by
  have ht : (xs.take k).Pairwise (· < ·) := hx.sublist (List.take_sublist _ _)
  rw [← h] at ht
  rw [jfind_iff hx (fun x hm => Int.le_of_lt ((List.pairwise_append.1 ht).2.2 x hm a (by simp)))]
  rw [if_pos]
  refine List.mem_of_mem_take (i := k) ?_
  rw [← h]; simp
theorem IFw.take {w : World} {A : Option Addr} {xs : List Int} (h : IFw w A xs) (k : Nat) : IFw w A (xs.take k) := fun j x hj => h j x (by
  rw [List.getElem?_take] at hj
  split at hj
  · exact hj
  · cases hj)
set_option maxHeartbeats 16000000 in
theorem fcursor_any (A1 : Option Addr) (n1 c1 : Nat) (zs : List Int) (cut : Int) (w : World) (hr1 : RF w A1 n1 c1 zs) (hcut : Ifit cut) :
    Calls Try.prog 8 #[.slice A1 n1 c1, .int .i64 cut] w fun e w' => e = .returned (.bool true) ∧ Below w.heap.size w w' := by
  have RA1 := Lib.hid hr1.2; have HCUT := Lib.hid hcut
  have hm1 : n1 ≤ maxLen := Nat.le_trans hr1.1.1 hr1.1.2.1
  unfold maxLen at hm1
  have enc : ∀ (fn : Fn) (p q : Array Value) W, (binOp .eql 54 (.func fn p q) .nilFunc).run Try.prog W = .ok (.bool false) W := fun fn p q => by
    have h : ∃ a b c, Try.prog.underlying 54 = some (.func a b c) := ⟨_, _, _, Try.underlying54⟩
    obtain ⟨a, b, c, h⟩ := h
    exact ffn_nil _ a b c h fn p q
  have enj : ∀ (fn : Fn) (p q : Array Value) W, (binOp .eql 58 (.func fn p q) .nilFunc).run Try.prog W = .ok (.bool false) W := fun fn p q => by
    have h : ∃ a b c, Try.prog.underlying 58 = some (.func a b c) := ⟨_, _, _, Try.underlying58⟩
    obtain ⟨a, b, c, h⟩ := h
    exact ffn_nil _ a b c h fn p q
  have ENC := Lib.hid enc; have ENJ := Lib.hid enj
  clear hr1 hcut enc enj
  refine (callsIn_wide (n := 5)).1 ?_
  refine callsIn_of_wp_marks Try.func8 rfl trivial ?_ rfl
  simp only [Try.ntmps8, List.size_toArray, List.length_cons, List.length_nil, Nat.reduceAdd, Nat.reduceSub, Array.replicate_succ, Array.replicate_zero, List.push_toArray, List.append_toArray, List.nil_append, List.cons_append]
  refine wpIn_wide.2 ?_
  obtain ⟨wq, hwq⟩ : ∃ wq, wq = w.alloc (.cells #[.bool false] 4) := ⟨_, rfl⟩
  obtain ⟨rq, hrq⟩ : ∃ rq, rq = w.heap.size := ⟨_, rfl⟩
  have WQ := Lib.hid (show Below w.heap.size w wq by rw [hwq]; exact balloc w _)
  have RQ := Lib.hid (show Arr wq rq 4 [.bool false] by rw [hwq, hrq]; exact Arr.new w _ [_])
  have HRQ := Lib.hid hrq
  go_upto_region 1 with fail
  rw [← hwq, ← hrq]
  have hrqw : rq < wq.heap.size := Arr.lt RQ.out
  clear hwq hrq
  go_wp2_with fail
  refine name_w ?_
  intro QM hQM
  have HQM := Lib.hid hQM
  clear hQM
  have TL : Hid (∀ (na : Nat) (Aa : Option Addr) (ca : Nat) (xs : List Int) (xa : Int) (wa : World) (v21 v22 v23 v24 v25 v26 v27 v28 v29 v30 v31 v32 v33 v34 v35 v36 v37 v38 v39 v40 v41 : Value), (RowA wa 3 Aa ca (fv xs) ∧ (xs.length = na ∧ na ≤ 20) ∧ Below wq.heap.size wq wa ∧ xs.Pairwise (· < ·)) →
      QM (.exit 0) { tmps := #[.slice A1 n1 c1, .int .i64 cut, undef, undef, .pointer (some ⟨rq, 0, none⟩), .slice Aa na ca, .int .i64 xa, .int .i64 na, undef, undef, undef, undef, undef, undef, undef, undef, undef, undef, undef, undef, undef, v21, v22, v23, v24, v25, v26, v27, v28, v29, v30, v31, v32, v33, v34, v35, v36, v37, v38, v39, v40, v41, undef, undef, undef, undef, undef, undef, undef, undef, undef, undef, undef, undef, undef, undef, undef, undef, undef, undef, undef, undef, undef, undef, undef, undef, undef, undef, undef, undef, undef, undef, undef, undef, undef, undef, undef, undef, undef, undef, undef, undef, undef, undef, undef, undef, undef, undef, undef, undef, undef, undef, undef, undef, undef, undef, undef, undef, undef, undef, undef, undef, undef, undef, undef, undef, undef, undef, undef, undef, undef, undef, undef, undef, undef, undef, undef, undef, undef, undef, undef, undef, undef, undef, undef, undef, undef, undef, undef, undef, undef, undef, undef, undef, undef, undef, undef, undef], defers := [] } wa) := Lib.hid (by
    intro na Aa ca xs xa wa v21 v22 v23 v24 v25 v26 v27 v28 v29 v30 v31 v32 v33 v34 v35 v36 v37 v38 v39 v40 v41 hfa
    obtain ⟨ar, ⟨al, al2⟩, ab, ap⟩ := hfa
    have AROW := Lib.hid ar; have ALEN := Lib.hid al; have WA := Lib.hid ab; have ARIS := Lib.hid ap
    have CN1 := Lib.hid (cursor_new Aa na ca xs wa ar.ifw al (by omega) ar.zero)
    clear ar al ab ap
    rw [HQM.out]
    clear HQM QM RA1
    go_wp2_with fail
    refine CN1.out.mono ?_
    rintro e wb ⟨rb1, Ab1, rfl, cu1, ⟨g1, g2⟩, bb⟩
    have CU1 := Lib.hid cu1; have G1 := Lib.hid g1; have G2 := Lib.hid g2; have BB := Lib.hid bb
    have AB := Lib.hid (AROW.out.below bb)
    have en := ENC.out
    clear cu1 g1 g2 bb CN1
    go_wp2_with fail
    clear en
    have hAb : Hid (∀ a, Aa = some a → a.block ≠ rb1) := Lib.hid (fun a ha => by have := AROW.out.lt a ha; have := G1.out; omega)
    have nB1 : Hid (¬ Of Ab1 rb1) := Lib.hid (fun h => (G2.out rb1 h).2.1 rfl)
    have lB1 : Hid (Low (Of Ab1) wb) := Lib.hid (fun q hq => (G2.out q hq).2.2)
    go_loopw [48] (fun kv wr => ∃ j : Nat, kv = .int .i64 j ∧ j ≤ na ∧ CurI (Of Ab1) wr rb1 (xs.drop j) ∧ Keep (fun k => k = rb1) wb wr) (fun kv _ => na - (intOf kv).toNat)
    case atStart => exact ⟨0, rfl, Nat.zero_le _, CU1.out, Keep.refl _ _⟩
    case round =>
      obtain ⟨j, rfl, hj, hcu, hkk⟩ := hrel
      have lB2 : Low (Of Ab1) wr := fun q hq => Nat.lt_of_lt_of_le (lB1.out q hq) hkk.size
      have NX := Lib.hid (cursor_next (Of Ab1) rb1 (xs.drop j) wr hcu nB1.out lB2)
      have KK := Lib.hid hkk; have HCU := Lib.hid hcu
      clear hcu hkk lB2
      by_cases hlt : j < na
      · obtain ⟨x, hx⟩ : ∃ x, xs[j]? = some x := ⟨_, List.getElem?_eq_getElem (by rw [ALEN.out]; exact hlt)⟩
        have ED : Hid (xs.drop j = x :: xs.drop (j + 1)) := Lib.hid (by
          obtain ⟨hj', rfl⟩ := List.getElem?_eq_some_iff.1 hx
          exact List.drop_eq_getElem_cons hj')
        have AR2 := AB.out.keepF KK.out (fun a ha e => hAb.out a ha e)
        obtain ⟨g, rfl, hg⟩ := AR2.at (by rw [fv_len, ALEN.out]; omega)
        have cg : wr.cell? ⟨g, j, none⟩ = some (.int .i64 x) := by rw [(hg j).2 (by rw [fv_len, ALEN.out]; exact hlt)]; exact fv_at hx
        have hgr : g ≠ rb1 := hAb.out _ rfl
        clear hx AR2 hg
        go_wp2_with fail
        refine NX.out.mono ?_
        rintro e wr2 h
        rcases h with ⟨h, _⟩ | ⟨x', r, h, rfl, hc2, hk2⟩
        · rw [ED.out] at h; cases h
        · rw [ED.out] at h
          injection h with h1 h2
          subst h1 h2
          have cg2 : wr2.cell? ⟨g, j, none⟩ = some (.int .i64 x) := (World.cell?_of_block (w := wr) (a := ⟨g, j, none⟩) (hk2.block g (World.block_lt_of_cell? _ _ cg) hgr)).trans cg
          have i5 : (x != x) = false := by simp
          have REL : Hid (CurI (Of Ab1) wr2 rb1 (xs.drop (j + 1)) ∧ Keep (fun k => k = rb1) wb wr2) := Lib.hid ⟨hc2, (KK.out.then hk2).more (fun q e => e.elim id id)⟩
          clear hc2 hk2 NX cg
          go_wp2_with fail
          go_roundw
          case rel => exact ⟨j + 1, by go_num, by omega, REL.out⟩
          case measure => simp [intOf]; omega
      · have ED : xs.drop j = [] := List.drop_of_length_le (by rw [ALEN.out]; omega)
        rw [ED] at NX HCU
        have NX2 := Lib.hid NX.out
        clear ED
        have WI := Lib.hid (fwithin_in cut 0 (na : Int) HCUT.out (by decide) (by omega) (by omega) (by omega) wr)
        have BWR : Hid (Below wa.heap.size wa wr) := Lib.hid (KK.out.below (fun k hk => by have hk : k = rb1 := hk; rw [hk]; exact G1.out) BB.out BB.out.size)
        have ARO : Hid (RowA wr 3 Aa ca (fv xs)) := Lib.hid (AROW.out.below BWR.out)
        go_wp2_with fail
        refine NX.out.mono ?_
        rintro e w5 h
        obtain ⟨-, rfl, rfl⟩ := curE_nil h
        go_wp2_with fail
        refine NX2.out.mono ?_
        rintro e w5' h
        obtain ⟨-, rfl, rfl⟩ := curE_nil h
        go_wp2_with fail
        refine WI.out.mono ?_
        rintro e w6 ⟨y, rfl, y0, y1, rfl⟩
        obtain ⟨k, hk⟩ : ∃ k : Nat, y = (k : Int) := ⟨y.toNat, by omega⟩
        subst hk
        have hkn : k ≤ na := by omega
        clear NX NX2 WI KK HCU y0 y1 hlt
        have RQ6 : Hid (Arr wr rq 4 [.bool false]) := Lib.hid ((Arr.below RQ.out WA.out).below BWR.out)
        have hcap : na ≤ ca := by have h := ARO.out.cap.1; rw [fv_len, ALEN.out] at h; exact h
        have hcapm := ARO.out.cap.2
        unfold maxLen at hcapm
        -- the counter
        obtain ⟨w7, hw7⟩ : ∃ w7, w7 = wr.alloc (.cells #[.int .i64 0] 3) := ⟨_, rfl⟩
        obtain ⟨nb, hnb⟩ : ∃ nb, nb = wr.heap.size := ⟨_, rfl⟩
        have NB7 := Lib.hid (show Arr w7 nb 3 [.int .i64 0] by rw [hw7, hnb]; exact Arr.new wr _ [_])
        have B7 := Lib.hid (show Below wr.heap.size wr w7 by rw [hw7]; exact balloc wr _)
        have A7 := Lib.hid (ARO.out.below B7.out)
        have F7 := Lib.hid (from_any Aa k ca (xs.take k) w7 (A7.out.ifw.take k) (by rw [List.length_take, ALEN.out]; omega) (by omega) A7.out.zero)
        have ARQ : Hid (∀ a, Aa = some a → a.block ≠ rq) := Lib.hid (fun a ha e => by
          obtain ⟨cur, hc⟩ : ∃ cur, wa.heap[a.block]? = some (.cells cur 3 (0, 0)) := by
            rcases AROW.out.parts with ⟨q, _⟩ | ⟨g, cur, q, q2, _⟩
            · rw [q] at ha; cases ha
            · rw [q] at ha; injection ha with ha; subst ha; exact ⟨cur, q2⟩
          have h2 : wa.heap[rq]? = some (.cells #[.bool false] 4 (0, 0)) := Arr.below RQ.out WA.out
          rw [e, h2] at hc
          injection hc with hc
          injection hc with _ hc
          exact absurd hc (by decide))
        have HNB := Lib.hid hnb; have HW7 := Lib.hid hw7
        clear hw7 hnb
        go_upto_region 22 with fail
        rw [← HW7.out, ← HNB.out]
        go_wp2_with fail
        refine F7.out.mono ?_
        rintro e w8a ⟨fb, Af, cf, rfl, ⟨a8, r8⟩, ⟨f1, f2⟩, b8⟩
        have CN2 := Lib.hid (cursor_new Aa na ca xs w8a (A7.out.ifw.below b8) ALEN.out (by omega) A7.out.zero)
        have A8 := Lib.hid a8; have R8 := Lib.hid r8; have F1 := Lib.hid f1; have F2 := Lib.hid f2; have B8 := Lib.hid b8
        clear F7 a8 r8 f1 f2 b8
        go_wp2_with fail
        refine CN2.out.mono ?_
        rintro e w8 ⟨rb2, Ab2, rfl, cu2, ⟨g1, g2⟩, b9⟩
        have JN := Lib.hid (join_new (.func 46) #[] #[.pointer (some ⟨fb, 0, none⟩)] (.func 56) #[] #[.pointer (some ⟨rb2, 0, none⟩)] (.func 32) #[] #[] w8)
        have CU2 := Lib.hid cu2; have G1b := Lib.hid g1; have G2b := Lib.hid g2; have B9 := Lib.hid b9
        clear CN2 cu2 g1 g2 b9
        go_wp2_with fail
        refine JN.out.mono ?_
        rintro e w9 ⟨rfl, ⟨a4, a5, a6⟩, b10, s10⟩
        have hs7 := B7.out.size; have hs8 := B8.out.size; have hs9 := B9.out.size; have hs10 := b10.size
        have crb := CU2.out.lt
        have fbl := Arr.lt A8.out
        have nbl := Arr.lt NB7.out
        have rql : rq < wr.heap.size := Arr.lt RQ6.out
        have KF : Hid (Keep (fun q => ¬ FromB fb Af q) w8a w9) := Lib.hid (((Keep.of_below (F := fun _ => False) B9.out).then (Keep.of_below (F := fun _ => False) b10)).more (fun q e => e.elim False.elim False.elim))
        have lowF : Hid (∀ q, FromB fb Af q → w7.heap.size ≤ q ∧ q < w8a.heap.size) := Lib.hid (fun q h => by
          rcases h with rfl | ⟨a, ha, rfl⟩
          · exact ⟨F1.out, fbl⟩
          · exact ⟨F2.out a ha, R8.out.lt a ha⟩)
        have TKL : Hid ((xs.take k).length = k) := Lib.hid (by rw [List.length_take, ALEN.out]; omega)
        have SQ := Lib.hid (joinseq xs (from_seq fb Af k cf (xs.take k) w8a A8.out R8.out TKL.out (by omega)) w9 KF.out (enters_of Try.func46 (by kernel_rfl) rfl) (Rp := NextI (xs.take k)) (fun _ _ _ h => h) (fun _ _ _ _ _ h _ _ => h) (Of Ab2) rb2 (CU2.out.keep (Keep.of_below (F := fun _ => False) b10) (fun h => h) (fun _ _ h => h) (fun q hq => (G2b.out q hq).2.2)) (fun q hq => Nat.lt_of_lt_of_le (G2b.out q hq).2.2 b10.size) (fun h => (G2b.out rb2 h).2.1 rfl) w8.heap.size (w8.heap.size + 1) (w8.heap.size + 2) a4 a5 a6
          (fun q hq => by have h1 := lowF.out q hq; exact ⟨⟨by omega, by omega, by omega⟩, by have := G1b.out; omega, fun h => by have := (G2b.out q h).1; omega⟩)
          ⟨⟨by omega, by omega, by omega⟩, fun h => by have := (G2b.out _ h).2.2; omega, fun h => by have := (G2b.out _ h).2.2; omega, fun h => by have := (G2b.out _ h).2.2; omega⟩)
        have B79 : Hid (Below w7.heap.size w7 w9) := Lib.hid ((B8.out.trans (B9.out.mono hs8)).trans (b10.mono (by omega)))
        have NB9 : Hid (Arr w9 nb 3 [.int .i64 0]) := Lib.hid (Arr.below NB7.out B79.out)
        have RQ9 : Hid (Arr w9 rq 4 [.bool false]) := Lib.hid (Arr.below (Arr.below RQ6.out B7.out) B79.out)
        have A9 : Hid (RowA w9 3 Aa ca (fv xs)) := Lib.hid (A7.out.below B79.out)
        have hs79 := B79.out.size
        have ITS : Hid (∀ q, (FromB fb Af q ∨ (q = w8.heap.size ∨ q = w8.heap.size + 1 ∨ q = w8.heap.size + 2) ∨ q = rb2 ∨ Of Ab2 q) → w7.heap.size ≤ q ∧ q < w9.heap.size) := Lib.hid (fun q h => by
          rcases h with h | h | h | h
          · have := lowF.out q h; omega
          · omega
          · have := G1b.out; omega
          · have := G2b.out q h; omega)
        have hnbr : wr.heap.size ≤ nb := by rw [HNB.out]; exact Nat.le_refl _
        have hnq : nb ≠ rq := by omega
        have hWQ := WQ.out.size; have hWA := WA.out.size; have hBW := BWR.out.size
        have hrqw0 : w.heap.size ≤ rq := by rw [HRQ.out]; exact Nat.le_refl _
        have BW9 : Hid (Below w.heap.size w w9) := Lib.hid ((((WQ.out.trans (WA.out.mono (by omega))).trans (BWR.out.mono (by omega))).trans (B7.out.mono (by omega))).trans (B79.out.mono (by omega)))
        have en := ENJ.out
        clear JN a4 a5 a6 b10 KF lowF
        go_wp2_with fail
        clear en
        refine (wpIn_wide (n := 5)).1 ?_
        refine range_F (m := 5) (gf := 58) rfl (enters_of Try.func58 (by kernel_rfl) rfl) SQ.out (Keep.refl _ _) (fun _ => rfl)
          (fun pre A V => (∀ q, A q ↔ q = nb ∨ q = rq) ∧ Arr V nb 3 [.int .i64 (pre.length : Int)] ∧ Arr V rq 4 [.bool false]) (fun _ _ _ _ => False) (fun q => q = nb ∨ q = rq)
          (fun s A V V' h kk => ⟨h.1, h.2.1.keepF kk (fun e => e ((h.1 _).2 (Or.inl rfl))), h.2.2.keepF kk (fun e => e ((h.1 _).2 (Or.inr rfl)))⟩) (fun _ _ _ _ _ h _ => h) (fun q hq e => by have := (ITS.out q hq).1; rcases e with e | e <;> omega) (fun q e => by rcases e with e | e <;> omega)
          ⟨fun q => Iff.rfl, NB9.out, RQ9.out⟩
          (fun pre x a' => a' = { tmps := #[.slice A1 n1 c1, .int .i64 cut, undef, undef, .pointer (some ⟨rq, 0, none⟩), .slice Aa na ca, .int .i64 xa, .int .i64 na, .func (.func 56) #[] #[.pointer (some ⟨rb1, 0, none⟩)], u9, u10, u11, .int .i64 0, .bool false, .int .i64 0, .bool false, .int .i64 k, .pointer (some ⟨nb, 0, none⟩), .func (.func 58) #[] #[.pointer (some ⟨w8.heap.size, 0, none⟩), .pointer (some ⟨w8.heap.size + 1, 0, none⟩), .pointer (some ⟨w8.heap.size + 2, 0, none⟩)], .int .i64 x.a, .pointer x.p, v21, v22, v23, v24, v25, v26, v27, v28, v29, v30, v31, v32, v33, v34, v35, v36, v37, v38, v39, v40, v41, .slice Aa na ca, .func (.func 56) #[] #[.pointer (some ⟨rb1, 0, none⟩)], .func (.func 56) #[] #[.pointer (some ⟨rb1, 0, none⟩)], .bool false, .slice Aa na ca, .int .i64 na, .int .i64 j, .bool false, u50, u51, u52, u53, u54, u55, u56, u57, u58, u59, u60, u61, u62, u63, u64, u65, u66, .tuple #[.int .i64 0, .bool false], .func (.func 56) #[] #[.pointer (some ⟨rb1, 0, none⟩)], .tuple #[.int .i64 0, .bool false], .int .i64 0, .bool false, .tuple #[.int .i64 0, .bool false], .func (.func 56) #[] #[.pointer (some ⟨rb1, 0, none⟩)], .tuple #[.int .i64 0, .bool false], .int .i64 0, .bool false, .int .i64 cut, .slice Aa na ca, .int .i64 na, .int .i64 k, .slice Aa na ca, .int .i64 k, .slice Aa k ca, .func (.func 46) #[] #[.pointer (some ⟨fb, 0, none⟩)], .slice Aa na ca, .func (.func 56) #[] #[.pointer (some ⟨rb2, 0, none⟩)], .func (.func 58) #[] #[.pointer (some ⟨w8.heap.size, 0, none⟩), .pointer (some ⟨w8.heap.size + 1, 0, none⟩), .pointer (some ⟨w8.heap.size + 2, 0, none⟩)], .func (.func 58) #[] #[.pointer (some ⟨w8.heap.size, 0, none⟩), .pointer (some ⟨w8.heap.size + 1, 0, none⟩), .pointer (some ⟨w8.heap.size + 2, 0, none⟩)], .bool false, .func (.func 58) #[] #[.pointer (some ⟨w8.heap.size, 0, none⟩), .pointer (some ⟨w8.heap.size + 1, 0, none⟩), .pointer (some ⟨w8.heap.size + 2, 0, none⟩)], .int .i64 x.a, .pointer x.p, undef, undef, undef, undef, undef, undef, undef, undef, undef, undef, undef, undef, undef, undef, undef, undef, undef, undef, undef, undef, undef, undef, undef, undef, undef, undef, undef, undef, undef, undef, undef, undef, undef, undef, undef, undef, undef, undef, undef, undef, undef, undef, undef, undef, undef], defers := [] })
          ?assign ?body ?done ?stop
        case assign =>
          intro l pre x V K hK
          have HK := Lib.hid hK
          clear hK
          unfold encJ
          gi_wp2
          exact HK.out _ rfl
        case body =>
          rintro l pre x a' A V hsz ⟨hA, vn, vr⟩ hlow hR hfl hfx rfl
          obtain ⟨⟨post, hpost⟩, hjp⟩ := hR
          obtain ⟨a, p⟩ := x
          have hpl : pre.length < k := by
            have h := congrArg List.length hpost
            rw [TKL.out] at h
            simp at h
            omega
          have hjf : jfind xs (pre.map Jp.a) a = some a := jfind_own ARIS.out hpost
          unfold JpAt at hjp
          rw [show jfind xs (pre.map Jp.a) (Jp.a ⟨a, p⟩) = some a from hjf] at hjp
          obtain ⟨q, hp, hq⟩ := hjp
          have hp : p = some ⟨q, 0, none⟩ := hp
          subst hp
          have hqf := hfx q ⟨_, rfl, rfl⟩
          have hqn : q ≠ nb ∧ q ≠ rq := ⟨fun e => hqf.1 ((hA q).2 (Or.inl e)), fun e => hqf.1 ((hA q).2 (Or.inr e))⟩
          have cq := hq.cell 0; have zq := hq.frozen 0
          have vn2 := vn.far (Ne.symm hqn.1) (.int .i64 (-1)) (k := 0)
          have cn := vn2.cell 0; have zn := vn2.frozen 0
          have cn0 := vn.cell 0
          have e1 : wrap64 ((pre.length : Int) + 1) = ((pre.length + 1 : Nat) : Int) := by rw [IntWalk.wrap64_in _ (by omega)]; omega
          have HA := Lib.hid hA; have VN := Lib.hid vn; have VR := Lib.hid vr; have HQF := Lib.hid hqf; have HQ := Lib.hid hq; have HLW := Lib.hid hlow
          clear hA vn vr hlow hfl hfx hpost hjf hqf hq vn2
          gi_wp2
          have kk := (Keep.set V q 0 (.int .i64 (-1))).then (Keep.set (V.setCell ⟨q, 0, none⟩ (.int .i64 (-1))) nb 0 (.int .i64 (((pre.length + 1 : Nat)) : Int)))
          refine ⟨A, ⟨?_, fun z hz => Nat.lt_of_lt_of_le (HLW.out z hz) ?_, fun z hz => Or.inl hz⟩, HA.out, ?_, ?_⟩
          · first
              | exact kk.more (fun z e => e.elim (fun e => Or.inr ⟨_, rfl, e⟩) (fun e => Or.inl ((HA.out z).2 (Or.inl e))))
              | (have kk2 := (Keep.set V q 0 (.int .i64 (-1))).then (Keep.set (V.setCell ⟨q, 0, none⟩ (.int .i64 (-1))) nb 0 (.int .i64 ((pre.length : Int) + 1))); exact kk2.more (fun z e => e.elim (fun e => Or.inr ⟨_, rfl, e⟩) (fun e => Or.inl ((HA.out z).2 (Or.inl e)))))
          · simp [World.setCell]
          · have h := (VN.out.far (Ne.symm hqn.1) (.int .i64 (-1)) (k := 0)).set 0 (.int .i64 (((pre.length + 1 : Nat)) : Int))
            rw [List.length_append]
            exact h
          · exact (VR.out.far (Ne.symm hqn.2) _).far (Ne.symm hnq) _
        case done =>
          rintro D ys A' V hD hS ⟨hA, vn, vr⟩ hlow hnt hkp hK
          have e0 : ys.map Jp.a = xs.take k := hS
          have hyl : ys.length = k := by have h := congrArg List.length e0; rw [List.length_map, TKL.out] at h; exact h
          rw [hyl] at vn
          have cn := vn.cell 0
          have i6 : ((k : Int) == (k : Int)) = true := by simp
          have AV : Hid (RowA V 3 Aa ca (fv xs)) := Lib.hid (A9.out.keepF hkp (fun a ha e => by
            have h1 := AROW.out.lt a ha
            rcases e with (e | e) | (e | e)
            · omega
            · have := Arr.lt RQ.out; have h2 := AROW.out
              exact ARQ.out a ha e
            · exact e
            · have := G1b.out; omega))
          have BV : Hid (Below w.heap.size w V) := Lib.hid (hkp.below (fun q hq => by
            rcases hq with (e | e) | (e | e)
            · omega
            · omega
            · exact e.elim
            · have := G1b.out; omega) BW9.out BW9.out.size)
          have VR := Lib.hid vr; have HK := Lib.hid hK
          have HDr : Hid (D ≠ rq) := Lib.hid (by omega)
          have hDw : w.heap.size ≤ D := by omega
          have FD1 := Lib.hid (found_any Aa Aa na na ca ca xs xs V AV.out.ifw AV.out.ifw ALEN.out ALEN.out (by omega) (by omega) AV.out.zero AV.out.zero)
          clear hS hA vn vr hlow hnt hkp hK e0 hyl SQ NB9 RQ9
          go_wp2_with fail
          refine FD1.out.mono ?_
          rintro e v1 ⟨Ao, co, rfl, ro, no, b1⟩
          have A1' := Lib.hid (AV.out.below b1)
          have FD2 := Lib.hid (found_any Aa Aa na na ca ca xs xs v1 A1'.out.ifw A1'.out.ifw ALEN.out ALEN.out (by omega) (by omega) A1'.out.zero A1'.out.zero)
          have RO := Lib.hid ro; have BB1 := Lib.hid b1
          clear FD1 ro no b1
          go_wp2_with fail
          refine FD2.out.mono ?_
          rintro e v2 ⟨Ao2, co2, rfl, ro2, no2, b2⟩
          have hjl : (jout xs xs).length = 2 * na := by rw [jout_len, ALEN.out]
          have SM := Lib.hid (isame_f Ao Ao2 (2 * na) co co2 (jout xs xs) v2 (by omega) hjl (RO.out.below b2).ifw ro2.ifw)
          have A2' := Lib.hid (A1'.out.below b2); have BB2 := Lib.hid b2
          clear FD2 ro2 no2 b2 hjl
          go_wp2_with fail
          refine SM.out.mono ?_
          rintro e v3 ⟨rfl, b3⟩
          have A3' := Lib.hid (A2'.out.below b3)
          have FD3 := Lib.hid (found_any Aa none na 0 ca 0 xs [] v3 A3'.out.ifw (fun j y h => by simp at h) ALEN.out rfl (by omega) (by omega) A3'.out.zero (fun _ => rfl))
          have BB3 := Lib.hid b3
          clear SM b3
          go_wp2_with fail
          refine FD3.out.mono ?_
          rintro e v4 ⟨Ao3, co3, rfl, ro3, no3, b4⟩
          obtain ⟨N, hN⟩ : ∃ N, 2 * na = N := ⟨_, rfl⟩
          have e5 : wrap64 (2 * (na : Int)) = (N : Int) := by rw [IntWalk.wrap64_in _ (by omega)]; omega
          have e5' : (2 * (na : Int)) = (N : Int) := by omega
          have i7 : ((N : Int) == (N : Int)) = true := by simp
          rw [hN]
          have FRN := Lib.hid (fruns_any v4)
          have B14 : Hid (Below V.heap.size V v4) := Lib.hid (((BB1.out.trans (BB2.out.mono BB1.out.size)).trans (BB3.out.mono (by have := BB1.out.size; have := BB2.out.size; omega))).trans (b4.mono (by have := BB1.out.size; have := BB2.out.size; have := BB3.out.size; omega)))
          clear FD3 ro3 no3 b4 hN
          go_wp2_with fail
          try rw [e5']
          go_wp2_with fail
          refine FRN.out.mono ?_
          rintro e v5 ⟨rfl, b5⟩
          have B15 : Hid (Below V.heap.size V v5) := Lib.hid (B14.out.trans (b5.mono B14.out.size))
          have VR5 := Arr.below VR.out B15.out
          have cr := VR5.cell 0; have zr := VR5.frozen 0
          have V5R := Lib.hid VR5
          clear VR5 b5 FRN
          go_wp2_with fail
          have hDV : D < V.heap.size := (Array.getElem?_eq_some_iff.1 HK.out).1
          have hKD : (v5.setCell ⟨rq, 0, none⟩ (.bool true)).heap[D]? = some (.deferred (some [])) := by
            rw [heap_setCell_other _ _ D _ (fun e => HDr.out e), B15.out.block D hDV]
            exact HK.out
          have V6 := V5R.out.set 0 (.bool true)
          have B6 : Below w.heap.size w (v5.setCell ⟨rq, 0, none⟩ (.bool true)) := (BV.out.trans (B15.out.mono BV.out.size)).setCell (p := ⟨rq, 0, none⟩) (by show w.heap.size ≤ rq; exact hrqw0) _
          refine ⟨by simp, .inl ⟨_, _, rfl, run_takeDeferred hKD, ?_⟩⟩
          refine ⟨_, fres_c _ _ rq (.bool true) rfl ?_, rfl, ?_⟩
          · exact (Arr.keepF V6 (Keep.putObj _ D _) (fun e => HDr.out e.symm)).cell 0
          · exact ⟨B6.os, B6.tape, B6.output, by simp [World.setCell] at *; have := B6.size; simp [World.setCell] at this; omega, fun q hq => by rw [World.putObj_heap_other (by omega)]; exact B6.block q hq⟩
        case stop =>
          rintro D c pre A' V hD hSp hF
          exact hF.elim)
  go_loopw [5, 6, 7] (fun av xv iv wr => ∃ (i : Nat) (Ar : Option Addr) (c : Nat) (xs : List Int) (x : Int), i ≤ n1 ∧ i ≤ 20 ∧ iv = .int .i64 i ∧ xv = .int .i64 x ∧ av = .slice Ar i c ∧ RowA wr 3 Ar c (fv xs) ∧ xs.length = i ∧ Below wq.heap.size wq wr ∧ (∀ a, Ar = some a → wq.heap.size ≤ a.block) ∧ risB xs x i) (fun _ _ iv _ => 20 - (intOf iv).toNat)
  case atStart => exact ⟨0, none, 0, [], 0, Nat.zero_le _, Nat.zero_le _, rfl, rfl, rfl, RowA.nil _ _, rfl, Below.refl _ _, fun a ha => (by cases ha), risB_nil⟩
  case round =>
    obtain ⟨i, Ar, c, xs, x, hi, hi2, rfl, rfl, rfl, hrow, hlen, hbel, hnew, hris⟩ := hrel
    have HROW := Lib.hid hrow; have HLEN := Lib.hid hlen; have HBEL := Lib.hid hbel; have HNEW := Lib.hid hnew; have HRIS := Lib.hid hris
    clear hrow hlen hbel hnew hris
    by_cases hgo : i < n1 ∧ i < 20
    · obtain ⟨g1, g2⟩ := hgo
      have i1 : decide ((i : Int) < (n1 : Int)) = true := by rw [decide_eq_true_eq]; omega
      have i2 : decide ((i : Int) < 20) = true := by rw [decide_eq_true_eq]; omega
      obtain ⟨b, o, rfl, hb0, hcz, hiz⟩ := RA1.out i g1
      obtain ⟨z, hz⟩ : ∃ z, zs.getD i 0 = z := ⟨_, rfl⟩
      rw [hz] at hcz hiz
      have hc2 : wr.cell? ⟨b, o + i, none⟩ = some (.int .i64 z) := (HBEL.out.cell (p := ⟨b, o + i, none⟩) (by show b < _; exact Nat.lt_of_lt_of_le hb0 WQ.out.size)).trans ((WQ.out.cell (p := ⟨b, o + i, none⟩) hb0).trans hcz)
      have WI := Lib.hid (fwithin_in z 1 3 hiz (by decide) (by decide) (by decide) (by decide) wr)
      clear hz hcz hiz
      go_wp2_with fail
      refine WI.out.mono ?_
      rintro e wr' ⟨y, rfl, y0, y1, rfl⟩
      have hx0 := risB_bd HRIS.out
      have e1 : wrap64 (x + y) = x + y := IntWalk.wrap64_in _ (by omega)
      have e3 : IntKind.i64.wrap (x + y) = x + y := IntWalk.i64_in _ (by omega)
      have RIS2 : Hid (risB (xs ++ [(x + y)]) (x + y) (i + 1)) := Lib.hid (risB_snoc HRIS.out y0 y1 (by omega))
      obtain ⟨V1, hV1⟩ : ∃ V1, V1 = wr.alloc (.cells #[.int .i64 (x + y)] 3) := ⟨_, rfl⟩
      have R1 : Hid (RowA V1 3 Ar c (fv xs)) := Lib.hid (by rw [hV1]; exact HROW.out.keepF (Keep.alloc wr _) (fun a ha h => h))
      have SC : Hid (Src V1 (some ⟨wr.heap.size, 0, none⟩) 1 [.int .i64 (x + y)]) := Lib.hid (by rw [hV1]; exact Src.one wr 3 (.int .i64 (x + y)) (0, 0) 1)
      have B1 : Hid (Below wq.heap.size wq V1) := Lib.hid (by rw [hV1]; exact HBEL.out.alloc HBEL.out.size _)
      have HVV := Lib.hid hV1
      clear hV1 WI hc2 i1 i2
      go_wp2_with (at_builtin; go_loud (rw [← HVV.out]; refine wpList_row_app fcells_I rfl _ _ rfl Ar i c (fv xs) rfl R1.out (by rw [fv_len]; exact HLEN.out) _ 1 1 [.int .i64 (x + y)] rfl rfl SC.out (by intro u hu; obtain rfl : u = .int .i64 (x + y) := (by simpa using hu); rfl) (by omega) ?_))
      intro A2 c2 V2 r2 k2 w2'
      have hnew2 : ∀ a, A2 = some a → wq.heap.size ≤ a.block := fun a ha => by
        rcases w2' with e | ⟨g, e, hg⟩
        · exact HNEW.out a (by rw [← e]; exact ha)
        · rw [e] at ha; injection ha with ha; subst ha
          have hg : V1.heap.size ≤ g := hg
          have := B1.out.size
          show wq.heap.size ≤ g
          omega
      have REL : Hid (RowA V2 3 A2 c2 (fv (xs ++ [(x + y)])) ∧ (xs ++ [(x + y)]).length = i + 1 ∧ Below wq.heap.size wq V2 ∧ (∀ a, A2 = some a → wq.heap.size ≤ a.block) ∧ risB (xs ++ [(x + y)]) (x + y) (i + 1)) := Lib.hid ⟨by rw [fv_app]; exact r2, by rw [List.length_append, HLEN.out]; rfl, k2.below (fun k hk => by obtain ⟨a, ha, rfl⟩ := hk; exact HNEW.out a ha) B1.out B1.out.size, hnew2, RIS2.out⟩
      clear r2 k2 w2' hnew2 R1 SC HVV
      go_wp2_with fail
      go_roundw
      case rel => exact ⟨i + 1, A2, c2, xs ++ [x + y], x + y, by omega, by omega, by go_num, rfl, rfl, REL.out⟩
      case measure => simp [intOf]; omega
    · have REST : Hid (¬ (i < n1 ∧ i < 20)) := Lib.hid hgo
      have FACTS : Hid (RowA wr 3 Ar c (fv xs) ∧ (xs.length = i ∧ i ≤ 20) ∧ Below wq.heap.size wq wr ∧ xs.Pairwise (· < ·)) := Lib.hid ⟨HROW.out, ⟨HLEN.out, hi2⟩, HBEL.out, HRIS.out.2.1⟩
      clear HROW HLEN HBEL HNEW HRIS
      by_cases hc1 : i < n1
      · have i1 : decide ((i : Int) < (n1 : Int)) = true := by rw [decide_eq_true_eq]; omega
        have i2 : decide ((i : Int) < 20) = false := by rw [decide_eq_false_iff_not]; have := REST.out; omega
        go_wp2_with fail
        exact TL.out _ _ _ _ _ _ _ _ _ _ _ _ _ _ _ _ _ _ _ _ _ _ _ _ _ _ _ FACTS.out
      · have i1 : decide ((i : Int) < (n1 : Int)) = false := by rw [decide_eq_false_iff_not]; omega
        go_wp2_with fail
        exact TL.out _ _ _ _ _ _ _ _ _ _ _ _ _ _ _ _ _ _ _ _ _ _ _ _ _ _ _ FACTS.out
end Go.Proofs.Ytjjkddahfmkhoaa
