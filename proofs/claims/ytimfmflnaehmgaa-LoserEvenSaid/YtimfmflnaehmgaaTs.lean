/-
  A source is asked: the contract of ask, for things of three ints.
-/
import Derived.Test.YtimfmflnaehmgaaTr
import Derived.Deep.RegionLaw
import Derived.RegionTactic
namespace Go.Proofs.Ytimfmflnaehmgaa
set_option linter.unusedVariables false
set_option linter.unusedSimpArgs false
set_option maxRecDepth 100000
open Go.RowKit

/-- What ask leaves. -/
def AskedT (R : List (List Th)) (w : World) (G : Nat → Prop) (b N i : Nat) (ss : List Tr) (ps : List Nat) (q : Nat → Nat → Int) (L : Lay) (s : Tr) (u : List Th) (p' : Nat) : Ending → World → Prop := fun e w' =>
  e = .returned (.tuple #[]) ∧ ∃ G' A c, LT.In w' G' b (ss.map Tr.v) (R.set i u) { L with lv := L.lv - (if u = [] then 1 else 0), N := L.N.set (2 ^ L.d + i) ⟨A, c, if u = [] then [] else [i]⟩ } ∧ Trs w' (N + 1) ss (ps.set i p') (up q s.pg s.po) ∧ Keep (fun k => TF G b L k ∨ WrT ss k) w w' ∧ Sub G' G w
set_option maxHeartbeats 4000000 in
theorem LT.ask_any (G : Nat → Prop) (B N b i : Nat) (ss : List Tr) (ps : List Nat) (q : Nat → Nat → Int) (s : Tr) (p : Nat) (R : List (List Th)) (L : Lay) (w : World) (h : LT.In w G b (ss.map Tr.v) R L) (hB : ∀ k, TF G b L k → B ≤ k) (hs : ss[i]? = some s) (hp : ps[i]? = some p) (sr : Trs w N ss ps q) (o : TrsOk B ss) (hN : N ≤ 1000000000) (hlv : 1 ≤ L.lv ∧ L.lv ≤ 1000) :
    Calls Try.prog 29 #[.pointer (some ⟨b, 0, none⟩), .int .i64 i] w (AskedT R w G b N i ss ps q L s (leftT s p) (min (p + 1) s.l.length)) := by
  have hil : i < ss.length := (List.getElem?_eq_some_iff.1 hs).1
  have hlen := h.lens
  rw [List.length_map] at hlen
  have hiR : i < R.length := by omega
  have hfit := h.fit
  have hsm := h.small
  have hBw : B ≤ w.heap.size := Nat.le_trans (hB b (Or.inl rfl)) (Nat.le_of_lt (Arr.lt h.st))
  have hfl : (ss.map Tr.v)[i]? = some s.v := by rw [List.getElem?_map, hs]; rfl
  obtain ⟨gs, gs1, gs3⟩ := h.src.at (by rw [List.length_map]; omega)
  have cg : w.cell? ⟨gs, i, none⟩ = some s.v := by rw [(gs3 i).2 (by rw [List.length_map]; omega)]; exact hfl
  have c1 : w.cell? ⟨b, 1, none⟩ = some (.slice (some ⟨gs, 0, none⟩) ss.length L.sc) := by have := Arr.cell h.st 1; rw [gs1, List.length_map] at this; exact this
  have AN := Lib.hid (LT.answer_any B N b i ss.length L.sc gs ss ps q s p w sr o hBw hs hp c1 cg ⟨Arr.lt h.st, h.src.lt _ gs1⟩ hil (by omega))
  have H := Lib.hid h; have O := Lib.hid o; have HB := Lib.hid hB
  obtain ⟨u, hu⟩ : ∃ u, leftT s p = u := ⟨_, rfl⟩
  obtain ⟨p', hp'⟩ : ∃ p', min (p + 1) s.l.length = p' := ⟨_, rfl⟩
  rw [hu, hp'] at AN ⊢
  obtain ⟨hb, hhb⟩ : ∃ x, L.hb = x := ⟨_, rfl⟩
  obtain ⟨nb, hnb⟩ : ∃ x, L.nb = x := ⟨_, rfl⟩
  obtain ⟨n, hn⟩ : ∃ n, 2 ^ L.d + i = n := ⟨_, rfl⟩
  obtain ⟨k, hk⟩ : ∃ k, R.length = k := ⟨_, rfl⟩
  obtain ⟨K, hK⟩ : ∃ K, 2 * 2 ^ L.d = K := ⟨_, rfl⟩
  obtain ⟨lv, hl⟩ : ∃ lv, L.lv = lv := ⟨_, rfl⟩
  have HHB := Lib.hid hhb; have HNB := Lib.hid hnb; have HN := Lib.hid hn; have HK := Lib.hid hk; have HK2 := Lib.hid hK; have HL := Lib.hid hl
  have i1 : (i : Int) < (k : Int) := by omega
  have i2 : (n : Int) < (K : Int) := by omega
  have hn1 : n ≤ 2000 := by omega
  have hlv1 : 1 ≤ lv ∧ lv ≤ 1000 := by omega
  clear h o hB hs hp sr gs3 cg c1 hfl hu hp' hhb hnb hn hk hK hl hlen hlv
  rcases u with _ | ⟨x, r⟩
  · have AN2 := Lib.hid (show Calls Try.prog 38 _ w fun e w' => e = .returned (.tuple #[.agg #[.int .i64 0, .int .i64 0, .int .i64 0], .bool false]) ∧ _ from AN.out)
    clear AN
    go_enter Try.func29, Try.ntmps29
    go_wp2_with fail
    refine AN2.out.mono ?_
    rintro e v1 ⟨rfl, t1, j1⟩
    have T1 := Lib.hid t1; have J1 := Lib.hid j1
    clear t1 j1
    go_upto_region 1 with fail
    obtain ⟨w1, hw1⟩ : ∃ W, W = v1.alloc (.cells #[.int .i64 0, .int .i64 0, .int .i64 0] 46) := ⟨_, rfl⟩
    rw [← hw1]
    obtain ⟨z, hz⟩ : ∃ z, v1.heap.size = z := ⟨_, rfl⟩
    rw [hz]
    have BB : Below v1.heap.size v1 w1 := by rw [hw1]; exact (Below.refl _ _).alloc (Nat.le_refl _) _
    have RV : ThV w1 z thz := by rw [hw1, ← hz]; exact Arr.new v1 46 [.int .i64 0, .int .i64 0, .int .i64 0]
    have s1 := T1.out.below O.out (Nat.le_trans hBw J1.out.size) BB
    have k1 : Keep (WrT ss) w w1 := J1.out.trans (Sub.refl _ _) (Keep.of_below BB)
    have h1 : LT.In w1 G b (ss.map Tr.v) R L := H.out.keep k1 (fun x hx hw => by have := HB.out x hx; have := O.out.wr x hw; omega)
    have c2 : w1.cell? ⟨b, 2, none⟩ = some (.slice (some ⟨hb, 0, none⟩) k k) := by have := Arr.cell h1.st 2; rw [HHB.out, HK.out] at this; exact this
    have h1h : Arr w1 hb 46 (tvals R) := by rw [← HHB.out]; exact h1.hand
    obtain ⟨ch, ch1, ch2⟩ := tvals_cell h1h hiR
    have fh : w1.frozen? ⟨hb, i * 3, none⟩ = false := Arr.frozen h1h _
    have fh1 : w1.frozen? ⟨hb, i * 3 + 1, none⟩ = false := Arr.frozen h1h _
    have fh2 : w1.frozen? ⟨hb, i * 3 + 2, none⟩ = false := Arr.frozen h1h _
    have y0 : w1.cell? ⟨z, 0, none⟩ = some (.int .i64 0) := Arr.cell RV 0
    have y1 : w1.cell? ⟨z, 1, none⟩ = some (.int .i64 0) := Arr.cell RV 1
    have y2 : w1.cell? ⟨z, 2, none⟩ = some (.int .i64 0) := Arr.cell RV 2
    have H1 := Lib.hid h1; have S1 := Lib.hid s1; have K1 := Lib.hid k1; have HW1 := Lib.hid hw1; have HZ := Lib.hid hz
    clear h1 s1 k1 hw1 hz BB RV h1h
    go_wp2_with fail
    go_still_tail 7, (by kernel_rfl)
    change wpList _ _ _ _ _ w1.drew
    go_upto_region 2 with fail
    obtain ⟨w2, hw2⟩ : ∃ W, W = (thp w1 hb i thz).drew := ⟨_, rfl⟩
    change Code.wp _ _ _ _ (thp w1 hb i thz).drew
    rw [← hw2]
    have BD2 : Below (thp w1 hb i thz).heap.size (thp w1 hb i thz) w2 := by rw [hw2]; exact (Below.refl _ _).drew
    have H2 : Hid (LT.In w2 G b (ss.map Tr.v) (R.set i []) L) := Lib.hid (by
      have a := H1.out.hset i hiR []
      rw [HHB.out] at a
      exact a.below BD2)
    have Q2 : Keep (· = hb) w1 w2 := (thp_keep w1 hb i thz).trans (Sub.refl _ _) (Keep.of_below BD2)
    have K2 : Hid (Keep (fun x => TF G b L x ∨ WrT ss x) w w2) := Lib.hid (by
      have a := K1.out
      refine ⟨by rw [Q2.os]; exact a.os, by rw [Q2.tape]; exact a.tape, by rw [Q2.output]; exact a.output, Nat.le_trans a.size Q2.size, fun x hx hn => ?_⟩
      rw [Q2.block x (by have := a.size; omega) (fun e => hn (Or.inl (Or.inr (Or.inl (e.trans HHB.out.symm)))))]
      exact a.block x hx (fun e => hn (Or.inr e)))
    have S2 : Hid (Trs w2 (N + 1) ss (ps.set i p') (up q s.pg s.po)) := Lib.hid (S1.out.same O.out (fun x hx => Q2.block x (by have := K1.out.size; omega) (fun e => by have := HB.out L.hb (Or.inr (Or.inl rfl)); rw [HHB.out] at this; have e : x = hb := e; omega)) Q2.size)
    clear hw2 ch ch1 ch2 c2 fh fh1 fh2 y0 y1 y2 BD2 Q2
    go_wp2_with fail
    have c4 : w2.cell? ⟨b, 4, none⟩ = some (.slice (some ⟨nb, 0, none⟩) K K) := by have := Arr.cell H2.out.st 4; rw [HNB.out, HK2.out] at this; exact this
    have LF := Lib.hid (LT.leaf_any b nb (2 ^ L.d) i w2 (by rw [HK2.out]; exact c4) hsm (by omega))
    rw [HN.out] at LF
    refine LF.out.mono ?_
    rintro e w3 ⟨rfl, b3⟩
    obtain ⟨e0, he0⟩ : ∃ e, L.N[n]? = some e := ⟨_, List.getElem?_eq_getElem (by have := H2.out.len; have := HN.out; omega)⟩
    have h3 := H2.out.below b3
    have d4 : w3.cell? ⟨b, 4, none⟩ = some (.slice (some ⟨nb, 0, none⟩) K K) := by have := Arr.cell h3.st 4; rw [HNB.out, HK2.out] at this; exact this
    have dn : w3.cell? ⟨nb, n, none⟩ = some (.slice e0.A e0.xs.length e0.c) := by have := (h3.nds.at he0).1; rw [HNB.out] at this; exact this
    have fn : w3.frozen? ⟨nb, n, none⟩ = false := by have := (h3.nds.at he0).2; rw [HNB.out] at this; exact this
    have bd3 : Below w2.heap.size w2 w3.drew := bstep b3 (Below.refl _ _).drew
    have PL := Lib.hid ((H2.out.below bd3).put he0 (Gr.refl w3.drew e0.A) (xs := []) (RowA.cut ((H2.out.below bd3).nds.row _ _ he0)) ⟨Nat.zero_le _, fun j hj => by cases hj⟩)
    have K3 := Lib.hid (K2.out.trans (Sub.refl _ _) (Keep.of_below bd3))
    have S3 := Lib.hid (S2.out.below O.out (Nat.le_trans hBw K2.out.size) bd3)
    have HE := Lib.hid he0
    clear b3 h3 c4 LF he0 bd3
    go_wp2_with fail
    go_still_tail 14, (by kernel_rfl)
    change wpList _ _ _ _ _ w3.drew
    go_upto_region 5 with fail
    obtain ⟨w4, hw4⟩ : ∃ W, W = (w3.setCell ⟨nb, n, none⟩ (.slice e0.A 0 e0.c)).drew := ⟨_, rfl⟩
    rw [← hw4]
    have P4 : PlayedT (R.set i []) w3.drew G b (ss.map Tr.v) L n [] (.returned (.tuple #[])) w4 := by rw [hw4, ← HNB.out]; exact PL.out
    obtain ⟨_, G4, A4, c4', h4, k4, sb4⟩ := P4
    have K4 : Hid (Keep (fun x => TF G b L x ∨ WrT ss x) w w4) := Lib.hid (K3.out.trans (Sub.refl _ _) ⟨k4.os, k4.tape, k4.output, k4.size, fun x hx hn => k4.block x hx (fun e => hn (Or.inl (by
      rcases e with e | e
      · exact Or.inr (Or.inr (Or.inl e))
      · exact Or.inr (Or.inr (Or.inr (Or.inr e))))))⟩)
    have SB4 : Hid (Sub G4 G w) := Lib.hid (fun x hx => by
      rcases sb4 x hx with e | e
      · exact Or.inl e
      · exact Or.inr (Nat.le_trans K3.out.size e))
    have S4 : Hid (Trs w4 (N + 1) ss (ps.set i p') (up q s.pg s.po)) := Lib.hid (S3.out.same O.out (fun x hx => k4.block x (Nat.lt_of_lt_of_le (Nat.lt_of_lt_of_le hx hBw) K3.out.size) (fun e => by
      have : B ≤ x := HB.out x (by
        rcases e with e | e
        · exact Or.inr (Or.inr (Or.inl e))
        · exact Or.inr (Or.inr (Or.inr (Or.inr e))))
      omega)) k4.size)
    have H4 := Lib.hid h4
    clear hw4 PL h4 k4 sb4 d4 dn fn
    have c3 : w4.cell? ⟨b, 3, none⟩ = some (.int .i64 (lv : Int)) := by have := Arr.cell H4.out.st 3; rw [show ({ L with N := L.N.set n ⟨A4, c4', []⟩ } : Lay).lv = lv from HL.out] at this; exact this
    have f3 : w4.frozen? ⟨b, 3, none⟩ = false := Arr.frozen H4.out.st 3
    have e1 : IntKind.i64.wrap ((lv : Int) - 1) = ((lv - 1 : Nat) : Int) := by rw [IntWalk.i64_in _ (by omega)]; omega
    have h5 := H4.out.lset (lv - 1)
    have FIN : Hid (AskedT R w G b N i ss ps q L s [] p' (.returned (.tuple #[])) (w4.setCell ⟨b, 3, none⟩ (.int .i64 ((lv - 1 : Nat) : Int)))) := Lib.hid ⟨rfl, G4, A4, c4', by
      rw [HN.out, if_pos rfl, if_pos rfl, HL.out]; exact h5, S4.out.same O.out (fun x hx => heap_setCell_other w4 _ x _ (fun e => by have := HB.out b (Or.inl rfl); have e : x = b := e; omega)) (by simp [World.setCell]), by
      have a := K4.out
      exact ⟨a.os, a.tape, a.output, by simpa [World.setCell] using a.size, fun x hx hn => by
        rw [heap_setCell_other w4 _ x _ (fun e => hn (Or.inl (Or.inl e)))]
        exact a.block x hx hn⟩, SB4.out⟩
    clear h5
    go_wp2_with fail
    go_end0
    exact FIN.out
  · have AN2 := Lib.hid (show Calls Try.prog 38 _ w fun e w' => e = .returned (.tuple #[.agg #[.int .i64 x.1, .int .i64 x.2.1, .int .i64 x.2.2], .bool true]) ∧ _ from AN.out)
    clear AN
    go_enter Try.func29, Try.ntmps29
    go_wp2_with fail
    refine AN2.out.mono ?_
    rintro e v1 ⟨rfl, t1, j1⟩
    have T1 := Lib.hid t1; have J1 := Lib.hid j1
    clear t1 j1
    go_upto_region 1 with fail
    obtain ⟨w1, hw1⟩ : ∃ W, W = v1.alloc (.cells #[.int .i64 x.1, .int .i64 x.2.1, .int .i64 x.2.2] 46) := ⟨_, rfl⟩
    rw [← hw1]
    obtain ⟨z, hz⟩ : ∃ z, v1.heap.size = z := ⟨_, rfl⟩
    rw [hz]
    have BB : Below v1.heap.size v1 w1 := by rw [hw1]; exact (Below.refl _ _).alloc (Nat.le_refl _) _
    have RV : ThV w1 z x := by rw [hw1, ← hz]; exact Arr.new v1 46 [.int .i64 x.1, .int .i64 x.2.1, .int .i64 x.2.2]
    have s1 := T1.out.below O.out (Nat.le_trans hBw J1.out.size) BB
    have k1 : Keep (WrT ss) w w1 := J1.out.trans (Sub.refl _ _) (Keep.of_below BB)
    have h1 : LT.In w1 G b (ss.map Tr.v) R L := H.out.keep k1 (fun x hx hw => by have := HB.out x hx; have := O.out.wr x hw; omega)
    have c2 : w1.cell? ⟨b, 2, none⟩ = some (.slice (some ⟨hb, 0, none⟩) k k) := by have := Arr.cell h1.st 2; rw [HHB.out, HK.out] at this; exact this
    have h1h : Arr w1 hb 46 (tvals R) := by rw [← HHB.out]; exact h1.hand
    obtain ⟨ch, ch1, ch2⟩ := tvals_cell h1h hiR
    have fh : w1.frozen? ⟨hb, i * 3, none⟩ = false := Arr.frozen h1h _
    have fh1 : w1.frozen? ⟨hb, i * 3 + 1, none⟩ = false := Arr.frozen h1h _
    have fh2 : w1.frozen? ⟨hb, i * 3 + 2, none⟩ = false := Arr.frozen h1h _
    have y0 : w1.cell? ⟨z, 0, none⟩ = some (.int .i64 x.1) := Arr.cell RV 0
    have y1 : w1.cell? ⟨z, 1, none⟩ = some (.int .i64 x.2.1) := Arr.cell RV 1
    have y2 : w1.cell? ⟨z, 2, none⟩ = some (.int .i64 x.2.2) := Arr.cell RV 2
    have H1 := Lib.hid h1; have S1 := Lib.hid s1; have K1 := Lib.hid k1; have HW1 := Lib.hid hw1; have HZ := Lib.hid hz
    clear h1 s1 k1 hw1 hz BB RV h1h
    go_wp2_with fail
    go_still_tail 7, (by kernel_rfl)
    change wpList _ _ _ _ _ w1.drew
    go_upto_region 2 with fail
    obtain ⟨w2, hw2⟩ : ∃ W, W = (thp w1 hb i x).drew := ⟨_, rfl⟩
    change Code.wp _ _ _ _ (thp w1 hb i x).drew
    rw [← hw2]
    have BD2 : Below (thp w1 hb i x).heap.size (thp w1 hb i x) w2 := by rw [hw2]; exact (Below.refl _ _).drew
    have H2 : Hid (LT.In w2 G b (ss.map Tr.v) (R.set i (x :: r)) L) := Lib.hid (by
      have a := H1.out.hset i hiR (x :: r)
      rw [HHB.out] at a
      exact a.below BD2)
    have Q2 : Keep (· = hb) w1 w2 := (thp_keep w1 hb i x).trans (Sub.refl _ _) (Keep.of_below BD2)
    have K2 : Hid (Keep (fun x => TF G b L x ∨ WrT ss x) w w2) := Lib.hid (by
      have a := K1.out
      refine ⟨by rw [Q2.os]; exact a.os, by rw [Q2.tape]; exact a.tape, by rw [Q2.output]; exact a.output, Nat.le_trans a.size Q2.size, fun x hx hn => ?_⟩
      rw [Q2.block x (by have := a.size; omega) (fun e => hn (Or.inl (Or.inr (Or.inl (e.trans HHB.out.symm)))))]
      exact a.block x hx (fun e => hn (Or.inr e)))
    have S2 : Hid (Trs w2 (N + 1) ss (ps.set i p') (up q s.pg s.po)) := Lib.hid (S1.out.same O.out (fun x hx => Q2.block x (by have := K1.out.size; omega) (fun e => by have := HB.out L.hb (Or.inr (Or.inl rfl)); rw [HHB.out] at this; have e : x = hb := e; omega)) Q2.size)
    clear hw2 ch ch1 ch2 c2 fh fh1 fh2 y0 y1 y2 BD2 Q2
    go_wp2_with fail
    have c4 : w2.cell? ⟨b, 4, none⟩ = some (.slice (some ⟨nb, 0, none⟩) K K) := by have := Arr.cell H2.out.st 4; rw [HNB.out, HK2.out] at this; exact this
    have LF := Lib.hid (LT.leaf_any b nb (2 ^ L.d) i w2 (by rw [HK2.out]; exact c4) hsm (by omega))
    rw [HN.out] at LF
    refine LF.out.mono ?_
    rintro e w3 ⟨rfl, b3⟩
    obtain ⟨e0, he0⟩ : ∃ e, L.N[n]? = some e := ⟨_, List.getElem?_eq_getElem (by have := H2.out.len; have := HN.out; omega)⟩
    have h3 := H2.out.below b3
    have d4 : w3.cell? ⟨b, 4, none⟩ = some (.slice (some ⟨nb, 0, none⟩) K K) := by have := Arr.cell h3.st 4; rw [HNB.out, HK2.out] at this; exact this
    have dn : w3.cell? ⟨nb, n, none⟩ = some (.slice e0.A e0.xs.length e0.c) := by have := (h3.nds.at he0).1; rw [HNB.out] at this; exact this
    have fn : w3.frozen? ⟨nb, n, none⟩ = false := by have := (h3.nds.at he0).2; rw [HNB.out] at this; exact this
    have bd3 : Below w2.heap.size w2 w3.drew := bstep b3 (Below.refl _ _).drew
    have PL := Lib.hid ((H2.out.below bd3).put he0 (Gr.refl w3.drew e0.A) (xs := []) (RowA.cut ((H2.out.below bd3).nds.row _ _ he0)) ⟨Nat.zero_le _, fun j hj => by cases hj⟩)
    have K3 := Lib.hid (K2.out.trans (Sub.refl _ _) (Keep.of_below bd3))
    have S3 := Lib.hid (S2.out.below O.out (Nat.le_trans hBw K2.out.size) bd3)
    have HE := Lib.hid he0
    clear b3 h3 c4 LF he0 bd3
    go_wp2_with fail
    go_still_tail 14, (by kernel_rfl)
    change wpList _ _ _ _ _ w3.drew
    go_upto_region 6 with fail
    obtain ⟨w4, hw4⟩ : ∃ W, W = (w3.setCell ⟨nb, n, none⟩ (.slice e0.A 0 e0.c)).drew := ⟨_, rfl⟩
    rw [← hw4]
    have P4 : PlayedT (R.set i (x :: r)) w3.drew G b (ss.map Tr.v) L n [] (.returned (.tuple #[])) w4 := by rw [hw4, ← HNB.out]; exact PL.out
    obtain ⟨_, G4, A4, c4', h4, k4, sb4⟩ := P4
    have K4 : Hid (Keep (fun x => TF G b L x ∨ WrT ss x) w w4) := Lib.hid (K3.out.trans (Sub.refl _ _) ⟨k4.os, k4.tape, k4.output, k4.size, fun x hx hn => k4.block x hx (fun e => hn (Or.inl (by
      rcases e with e | e
      · exact Or.inr (Or.inr (Or.inl e))
      · exact Or.inr (Or.inr (Or.inr (Or.inr e))))))⟩)
    have SB4 : Hid (Sub G4 G w) := Lib.hid (fun x hx => by
      rcases sb4 x hx with e | e
      · exact Or.inl e
      · exact Or.inr (Nat.le_trans K3.out.size e))
    have S4 : Hid (Trs w4 (N + 1) ss (ps.set i p') (up q s.pg s.po)) := Lib.hid (S3.out.same O.out (fun x hx => k4.block x (Nat.lt_of_lt_of_le (Nat.lt_of_lt_of_le hx hBw) K3.out.size) (fun e => by
      have : B ≤ x := HB.out x (by
        rcases e with e | e
        · exact Or.inr (Or.inr (Or.inl e))
        · exact Or.inr (Or.inr (Or.inr (Or.inr e))))
      omega)) k4.size)
    have H4 := Lib.hid h4
    clear hw4 PL h4 k4 sb4 d4 dn fn
    have hne : n < L.N.length := by have := H2.out.len; have := HN.out; omega
    have he4 : ({ L with N := L.N.set n ⟨A4, c4', []⟩ } : Lay).N[n]? = some ⟨A4, c4', []⟩ := List.getElem?_set_self hne
    have z4 : w4.cell? ⟨b, 4, none⟩ = some (.slice (some ⟨nb, 0, none⟩) K K) := by have := Arr.cell H4.out.st 4; rw [show ({ L with N := L.N.set n ⟨A4, c4', []⟩ } : Lay).nb = nb from HNB.out, HK2.out] at this; exact this
    have zn : w4.cell? ⟨nb, n, none⟩ = some (.slice A4 0 c4') := by have := (H4.out.nds.at he4).1; rw [show ({ L with N := L.N.set n ⟨A4, c4', []⟩ } : Lay).nb = nb from HNB.out] at this; exact this
    have fn : w4.frozen? ⟨nb, n, none⟩ = false := by have := (H4.out.nds.at he4).2; rw [show ({ L with N := L.N.set n ⟨A4, c4', []⟩ } : Lay).nb = nb from HNB.out] at this; exact this
    have blt : b < w4.heap.size := Arr.lt H4.out.st
    have nlt : nb < w4.heap.size := by rw [← HNB.out]; exact Arr.lt H4.out.nds.arr
    have BA : Hid (Below w4.heap.size w4 ((w4.alloc (.cells #[.int .i64 (i : Int)] 3)).drew)) := Lib.hid (((Below.refl _ _).alloc (Nat.le_refl _) _).drew)
    have R5 : Hid (RowA ((w4.alloc (.cells #[.int .i64 (i : Int)] 3)).drew) 3 A4 c4' []) := Lib.hid ((H4.out.nds.row _ _ he4).below BA.out)
    have HE4 := Lib.hid he4
    clear he4
    have NX : Hid (∀ A6 c6 w6, RowA w6 3 A6 c6 [.int .i64 (i : Int)] → Keep (Of A4) ((w4.alloc (.cells #[.int .i64 (i : Int)] 3)).drew) w6 → ((A6 = A4) ∨ ∃ g, A6 = some ⟨g, 0, none⟩ ∧ ((w4.alloc (.cells #[.int .i64 (i : Int)] 3)).drew).heap.size ≤ g) → Gr w4 w6 A4 A6) := Lib.hid (fun A6 c6 w6 r k a => Gr.after BA.out ⟨k, a⟩)
    go_region_law (refine step_row_app cells_int rfl _ _ rfl A4 0 c4' [] rfl R5.out rfl (some ⟨w4.heap.size, 0, none⟩) 1 1 [.int .i64 (i : Int)] rfl rfl (Src.one w4 3 _ _ _) (by simp [Value.oneCell']) (by omega) ?_; intro A6 c6 w6 r6 k6 a6; have G6 := Lib.hid (NX.out A6 c6 w6 r6 k6 a6); have R6 := Lib.hid r6; have z6 : w6.cell? ⟨b, 4, none⟩ = some (.slice (some ⟨nb, 0, none⟩) K K) := (by rw [H4.out.far HNB.out HE4.out (Or.inl rfl) G6.out]; exact z4); have y6 : w6.cell? ⟨nb, n, none⟩ = some (.slice A4 0 c4') := (by rw [H4.out.far HNB.out HE4.out (Or.inr rfl) G6.out]; exact zn); have f6 : w6.frozen? ⟨nb, n, none⟩ = false := (by rw [H4.out.farF HNB.out HE4.out G6.out]; exact fn); clear r6 k6 a6)
    all_goals
      have FIN : Hid (AskedT R w G b N i ss ps q L s (x :: r) p' (.returned (.tuple #[])) (w6.setCell ⟨nb, n, none⟩ (.slice A6 1 c6))) := Lib.hid (by
        have P6 := H4.out.put HE4.out G6.out (xs := [i]) R6.out ⟨(by show 1 ≤ 1000; decide), fun j hj => by rw [List.mem_singleton.1 hj, List.length_set]; exact hiR⟩
        obtain ⟨_, G7, A7, c7, h7, k7, sb7⟩ := P6
        have hnb4 : ({ L with N := L.N.set n ⟨A4, c4', []⟩ } : Lay).nb = nb := HNB.out
        have k7 : Keep (fun x => x = nb ∨ G4 x) w4 (w6.setCell ⟨nb, n, none⟩ (.slice A6 1 c6)) := by have q7 := k7; rw [hnb4] at q7; exact q7
        have hG4 : ∀ x, G4 x → B ≤ x := fun x hx => by
          rcases SB4.out x hx with e | e
          · exact HB.out x (Or.inr (Or.inr (Or.inr (Or.inr e))))
          · omega
        have hnbB : B ≤ nb := by rw [← HNB.out]; exact HB.out _ (Or.inr (Or.inr (Or.inl rfl)))
        refine ⟨rfl, G7, A7, c7, ?_, S4.out.same O.out (fun x hx => k7.block x (Nat.lt_of_lt_of_le (Nat.lt_of_lt_of_le hx hBw) K4.out.size) (fun e => by
          rcases e with e | e
          · omega
          · have := hG4 x e; omega)) k7.size, K4.out.trans (F' := fun x => x = nb ∨ G4 x) (fun x hx => ?_) k7, fun x hx => ?_⟩
        · rw [HN.out, if_neg (by simp), if_neg (by simp), Nat.sub_zero]
          have e1 : (L.N.set n ⟨A4, c4', []⟩).set n ⟨A7, c7, [i]⟩ = L.N.set n ⟨A7, c7, [i]⟩ := List.set_set ..
          have e2 : ({ L with N := L.N.set n ⟨A4, c4', []⟩ } : Lay).N = L.N.set n ⟨A4, c4', []⟩ := rfl
          rw [e2, e1] at h7
          rw [← HNB.out]
          exact h7
        · rcases hx with e | e
          · exact Or.inl (Or.inl (Or.inr (Or.inr (Or.inl (e.trans HNB.out.symm)))))
          · rcases SB4.out x e with e | e
            · exact Or.inl (Or.inl (Or.inr (Or.inr (Or.inr (Or.inr e)))))
            · exact Or.inr e
        · rcases sb7 x hx with e | e
          · exact SB4.out x e
          · exact Or.inr (Nat.le_trans K4.out.size e))
      go_wp2_with fail
      go_end0
      exact FIN.out
end Go.Proofs.Ytimfmflnaehmgaa
