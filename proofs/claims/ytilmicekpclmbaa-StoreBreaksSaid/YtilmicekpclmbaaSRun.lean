/-
  StoreRuns: the walk.
-/
import Derived.Test.YtilmicekpclmbaaZI
import Derived.Test.YtilmicekpclmbaaZJ
import Derived.Test.YtilmicekpclmbaaZr
namespace Go.Proofs.Ytilmicekpclmbaa
set_option linter.unusedVariables false
set_option linter.unusedSimpArgs false
set_option maxRecDepth 100000
open Go.RowKit Go.Shelf
attribute [local go_sem] Oper.semAt_some

theorem make_map {ops : Array Oper} {rs : List Oper} {o : Oper} {a : Act} {w : World} {Q : Exit → Act → World → Prop} (hgd : o.guard = none) (ho : o.op = .makeMap 32 none)
    (h : ∀ w1, MapB w1 w.heap.size [] → Below w.heap.size w w1 → w1.heap.size = w.heap.size + 1 → wpList Try.prog ops Q rs (a.put o.dst (.map (some w.heap.size))) w1) : wpList Try.prog ops Q (o :: rs) a w :=
  wpList_plain hgd fun K hK => by
    have ht : Try.prog.underlying 32 = some (.map 3 30) := Try.underlying32
    unfold Oper.wp execOp
    simp [ho, Instr.makeMap, newObj, Sem.run_bind, Sem.run_pure, Result.andThen, run_underlying ht, go_sem]
    exact hK _ _ (h _ (MapB.made w) ((Below.refl _ _).alloc (Nat.le_refl _) _) (by simp))
/-- The invariant of the loop over the blocks: their lengths. -/
structure SrI (w : World) (r8 fb : Nat) (f : Fl) (pre : List PtV) (V : World) : Prop where
  row : ∃ A c, Arr V r8 43 [.slice A pre.length c] ∧ OwnI V w.heap.size A pre.length c (pre.map fun x => (x.n : Int))
  fl : FlV V fb f
  len : ∀ x, x ∈ pre → x.bytes.length = x.n
  ok : chainEnd (pre.map PtV.pt) = 0
  b : Below w.heap.size w V
theorem srI_own {T : List TypeId} {w : World} {r8 fb B : Nat} {f : Fl} (h8 : r8 < B) (h6 : fb < B) (hw : w.heap.size ≤ B) (hT : 3 ∉ T) : OwnT T B (SrI w r8 fb f) := fun pre X Y row hs hg hr => by
  obtain ⟨⟨A, c, a8, ow⟩, fl, ln, ok, b⟩ := hs
  refine ⟨⟨A, c, (arr_ownT (β := Unit) h8) () X Y row a8 hg hr, ow.same (fun a ha => ?_)⟩, (arr_ownT (β := Unit) h6) () X Y row fl hg hr, ln, ok, (ownT_below (β := Unit) hw (Nat.le_refl _)) () X Y row b hg hr⟩
  obtain ⟨cur, hc⟩ := ow.1.kind a ha
  exact Turn.other hg hr hc (Or.inr hT)
theorem two_len {xs : List PtV} {a b : Pt} (h : xs.map PtV.pt = [a, b]) (ln : ∀ x, x ∈ xs → x.bytes.length = x.n) : xs.length = 2 ∧ (xs.map fun x => (x.n : Int)) = [(a.bytes.length : Int), (b.bytes.length : Int)] := by
  rcases xs with _ | ⟨x1, _ | ⟨x2, _ | ⟨x3, r⟩⟩⟩
  · cases h
  · cases h
  · simp only [List.map_cons, List.map_nil, List.cons.injEq, and_true] at h
    have e1 := ln x1 (by simp); have e2 := ln x2 (by simp)
    rw [← h.1, ← h.2]
    refine ⟨rfl, ?_⟩
    show [(x1.n : Int), (x2.n : Int)] = [(x1.bytes.length : Int), (x2.bytes.length : Int)]
    rw [e1, e2]
  · simp at h
theorem OwnI.reads' {w : World} {base : Nat} {A : Option Addr} {n cap : Nat} {l : List Int} (h : OwnI w base A n cap l) : IR w w.heap.size A l := fun k hk => by
  obtain ⟨g, e, h1⟩ := h.1.at (by rw [← h.2.1]; omega)
  subst e
  refine ⟨g, 0, rfl, (h.1.lt _ rfl).2, ?_, h.2.2 k (by rw [← h.2.1]; exact hk)⟩
  rw [Nat.zero_add]
  exact h.cell k (by rw [← h.2.1]; exact hk)
theorem field_gen (g : Int) (a1 a2 a3 a4 a5 a6 a7 a8 : Value) (w : World) : (Instr.field 37 (.agg #[.int .i64 g, a1, a2, a3, a4, a5, a6, a7, a8]) 0).run Try.prog w = .ok (.int .i64 g) w := by kernel_rfl
set_option maxHeartbeats 16000000 in
theorem sruns_any (w : World) : Calls Try.prog 3 #[] w fun e w' => e = .returned (.bool true) ∧ Below w.heap.size w w' := by
  have NW := Lib.hid (disk_new 8 (by decide) (by decide) w)
  refine (callsIn_wide (n := 5)).1 ?_
  refine callsIn_of_wp_marks Try.func3 rfl trivial ?_ rfl
  simp only [Try.ntmps3, List.size_toArray, List.length_cons, List.length_nil, Nat.reduceAdd, Nat.reduceSub, Array.replicate_succ, Array.replicate_zero, List.push_toArray, List.append_toArray, List.nil_append, List.cons_append]
  refine wpIn_wide.2 ?_
  go_wp2_with fail
  refine NW.out.mono ?_
  rintro e w1 ⟨d, Fd, rfl, hd, hF, hb⟩
  have D1 := Lib.hid hd; have HF := Lib.hid hF; have B1 := Lib.hid hb
  clear NW hd hF hb
  go_wp2_with (with_reducible refine make_map rfl rfl ?_)
  intro w1' mb1 b1' z1'
  obtain ⟨mb, hmb⟩ : ∃ mb, mb = w1.heap.size := ⟨_, rfl⟩
  rw [← hmb] at mb1 ⊢
  have MB1 := Lib.hid mb1; have B1' := Lib.hid b1'; have HMB := Lib.hid hmb
  clear mb1 b1' z1' hmb
  have MK := Lib.hid (mk_any 3 200 ⟨by decide, by decide⟩ (by decide) w1')
  go_wp2_with fail
  refine MK.out.mono ?_
  rintro e w2 ⟨g, rfl, hown, hb⟩
  have OW := Lib.hid hown
  have B2 := Lib.hid (bstep B1'.out hb)
  have MB : Hid (MapB w2 mb []) := Lib.hid (MB1.out.below hb)
  have GL : Hid (w1'.heap.size ≤ g ∧ g < w2.heap.size) := Lib.hid hown.lt
  obtain ⟨w3, hput, hm3, k3, z3⟩ := run_putB MB.out (fun i j hi => absurd hi (by simp)) 1 (.slice (some ⟨g, 0, none⟩) 200 200)
  have M3 := Lib.hid hm3; have K3 := Lib.hid k3; have Z3 := Lib.hid z3
  clear MK hown hb hm3 k3 z3
  go_wp2_with fail
  have mbl : w1.heap.size ≤ mb := by have := HMB.out; omega
  have FLT : Hid (∀ q, Fd q → q < w1.heap.size) := Lib.hid D1.out.lt
  have hb13 : ∀ q, q < w1.heap.size → w3.heap[q]? = w1.heap[q]? := fun q hq => by
    rw [K3.out.block q (by have := B2.out.size; omega) (fun e => by have e : q = mb := e; omega)]
    exact B2.out.block q hq
  have D3 := Lib.hid (D1.out.stay (fun q hq => hb13 q (FLT.out q hq)))
  have gmb : g ≠ mb := by have := MB1.out.lt; have := GL.out.1; omega
  have MR : Hid (MapR w3 w3.heap.size Fd (.map (some mb)) (putL [] 1 (.slice (some ⟨g, 0, none⟩) 200 200)) runFs) := Lib.hid (by
    refine ⟨Or.inr ⟨mb, rfl, M3.out, by have := MB.out.lt; have := Z3.out; omega, fun e => by have := FLT.out _ e; omega⟩, fun n hn => ?_, fun n v hn => ?_⟩
    · refine if_neg (fun e => ?_)
      subst e
      simp [putL, lookL] at hn
    · have hn1 : n = 1 ∧ v = .slice (some ⟨g, 0, none⟩) 200 200 := by
        simp [putL, lookL] at hn
        exact ⟨hn.1.symm, hn.2.symm⟩
      obtain ⟨rfl, rfl⟩ := hn1
      refine ⟨mkB 3 200, some ⟨g, 0, none⟩, 200, if_pos rfl, by rw [mkB_len], by rw [mkB_len]; decide, by unfold maxLen; decide, by rw [mkB_len]; decide, fun j hj => ?_, fun a ha => ?_⟩
      · obtain ⟨b2, o2, e1, e2, e3, e4⟩ := OW.out.reads j hj
        injection e1 with e1; injection e1 with e1 e1'; subst e1 e1'
        exact ⟨g, 0, rfl, by have := Z3.out; omega, by rw [World.cell?_of_block (w := w2) (a := ⟨g, 0 + j, none⟩) (K3.out.block g GL.out.2 gmb)]; exact e3, e4⟩
      · injection ha with ha
        subst ha
        exact ⟨fun e => by have := FLT.out _ e; have := GL.out.1; have := MB1.out.lt; have e : Fd g := e; have := FLT.out _ e; omega, by show g < w3.heap.size; have := Z3.out; have := GL.out.2; omega⟩)
  have FM := Lib.hid (format_any Fd d (Dk.new 8) (.map (some mb)) _ runFs w3 D3.out (by decide) (by decide) MR.out)
  obtain ⟨rf0, rff, rx, ry, RP, rnm, rl1, rl2, rcat⟩ := runs_form d
  have B13 : Hid (Below w1.heap.size w1 w3) := Lib.hid (K3.out.below (fun q hq => by have hq : q = mb := hq; omega) B2.out B2.out.size)
  refine FM.out.mono ?_
  rintro e w4 (⟨h0, b, F4, rfl, hst, k4, sb4⟩ | ⟨h0, _⟩)
  case inr => exact absurd rf0 h0
  have RPH := Lib.hid RP; have RL1 := Lib.hid rl1; have RL2 := Lib.hid rl2; have RCAT := Lib.hid rcat; have RNM := Lib.hid rnm
  obtain ⟨S5, hS5⟩ : ∃ S5, (formF (Dk.new 8) d runFs).2 = S5 := ⟨_, rfl⟩
  rw [hS5] at hst RPH
  have ST4 := Lib.hid hst; have K4 := Lib.hid k4; have SB4 := Lib.hid sb4
  obtain ⟨Fe, hde, hfe⟩ := hst.disk
  have HFE := Lib.hid hfe
  rw [RPH.out.loc] at hde
  have DE := Lib.hid hde
  have OP := Lib.hid (open_any Fe d S5.dk w4 hde (by rw [RPH.out.wt]; decide))
  have RO := Lib.hid (open_made d RPH.out.fr RPH.out.ok RPH.out.right (by rw [RPH.out.cat]) RPH.out.has (i := 0) (by decide) RPH.out.here (fun e => by
    have := slot_none RPH.out.other
    have e : slK S5.dk 1 = true := e
    rw [this] at e; cases e))
  clear FM hput RP rl1 rl2 rcat rnm rf0 h0 hst k4 sb4 hde hfe hS5 hb13
  go_wp2_with fail
  refine OP.out.mono ?_
  rintro e w5 (⟨h0, b5, F5, rfl, hst, k5, sb5⟩ | ⟨h0, _⟩)
  case inr => exact absurd RO.out.1 h0
  have ST5 := Lib.hid hst; have K5 := Lib.hid k5
  obtain ⟨T, hT⟩ : ∃ T, (openF S5.dk d).2 = T := ⟨_, rfl⟩
  rw [hT] at ST5 RO
  clear OP h0 hst k5 sb5 hT
  have FRE := Lib.hid (free_any F5 b5 T w5 ST5.out (by rw [RO.out.2.fl_, RPH.out.len]; decide))
  have LEN : Hid (S5.dk.blk.length = 8) := Lib.hid (by rw [RPH.out.len]; show (List.replicate 8 (fillB 0)).length = 8; rw [List.length_replicate])
  have CNT : Hid (cntT T.free = 4) := Lib.hid (by
    have hr := RO.out.2.has.r
    have hlt := RO.out.2.has.lt RPH.out.ok
    have hn := RO.out.2.has.n
    have e : blks [(rff, [rx, ry])] = [rx.1, ry.1] := rfl
    rw [e] at hr hlt hn
    have a := hr rx.1 (by simp); have b := hr ry.1 (by simp); have a2 := hlt rx.1 (by simp); have b2 := hlt ry.1 (by simp)
    rw [LEN.out] at a2 b2
    refine free_four (x := rx.1) (y := ry.1) (by rw [RO.out.2.fl_, LEN.out]) ⟨a.1, by omega⟩ ⟨b.1, by omega⟩ (by simp at hn; exact hn) (fun j => ?_)
    rw [RO.out.2.free, LEN.out, e])
  have CAT : Hid (T.cat = { Ct.zero with gen := 1, files := [rff] }) := Lib.hid (by rw [RO.out.2.cat, RPH.out.cat]; rfl)
  have CA := Lib.hid (fun v (k : Below w5.heap.size w5 v) => catalog_any F5 b5 T v (ST5.out.below k) (by rw [CAT.out]; show (1 : Nat) ≤ 1000; decide))
  go_wp2_with fail
  refine FRE.out.mono ?_
  rintro e w6 ⟨rfl, rfl⟩
  rw [CNT.out]
  go_wp2_with fail
  refine (CA.out _ (Below.refl _ _)).mono ?_
  rintro e w6 ⟨A6, n6, c6, rfl, ow6, b6⟩
  rw [CAT.out]
  unfold ctv
  have B6 := Lib.hid b6
  have fg := field_gen
  clear FRE ow6 b6
  go_wp2_with fail
  refine (CA.out _ B6.out).mono ?_
  rintro e w7 ⟨A7, n7, c7, rfl, ow7, b7⟩
  rw [CAT.out] at ow7 ⊢
  have OW7 := Lib.hid ow7; have B7 := Lib.hid (bstep B6.out b7)
  have FO : Hid (rff.Ok) := Lib.hid (by
    have := RPH.out.right
    rw [RPH.out.cat] at this
    have h := this.f 0 (by show 0 < 1; decide)
    have h : rff.Right := h
    have := h.n; have := h.f; have := h.b; have := h.x
    exact ⟨⟨by omega, by omega⟩, ⟨by omega, by omega⟩, ⟨by omega, by omega⟩, ⟨by omega, by omega⟩⟩)
  have FN := Lib.hid (find_any { Ct.zero with gen := 1, files := [rff] } w7.heap.size A7 n7 c7 1 w7 ow7.2.1 (by have := ow7.cap; unfold maxLen at *; omega) ow7.reads (Nat.le_refl _) ⟨by decide, by decide⟩)
  clear ow7 b7
  go_wp2_with fail
  have FD : Hid (fndF [rff] 1 = rff ∧ fndK [rff] 1 = true) := Lib.hid (by
    have e : (rff.name == 1) = true := by rw [RNM.out]; decide
    unfold fndF fndK fnd
    simp [RNM.out])
  refine FN.out.mono ?_
  rintro e w8 ⟨rfl, b8⟩
  have e1 : fndF ({ Ct.zero with gen := 1, files := [rff] } : Ct).files 1 = rff := FD.out.1
  have e2 : fndK ({ Ct.zero with gen := 1, files := [rff] } : Ct).files 1 = true := FD.out.2
  rw [e1, e2]
  have B8 := Lib.hid (bstep B7.out b8)
  clear FN b8 e1 e2
  go_wp2_with (with_reducible refine alloc_fl rfl rfl ?_)
  intro w9 l9 b9 z9
  obtain ⟨fb, hfb⟩ : ∃ fb, fb = w8.heap.size := ⟨_, rfl⟩
  rw [← hfb] at l9 ⊢
  have L9 : Hid (FlV w9 fb Fl.zero) := Lib.hid l9
  have B9 := Lib.hid (bstep B8.out b9); have HFB := Lib.hid hfb
  clear l9 b9 z9 hfb
  go_wp2_with (with_reducible refine store_fl rfl _ _ rfl fb Fl.zero rff L9.out rfl rfl ?_)
  intro w10 l10 k10 z10
  have L10 : Hid (FlV w10 fb rff) := Lib.hid l10
  have B10 : Hid (Below w5.heap.size w5 w10) := Lib.hid (k10.below (fun q hq => by have hq : q = fb := hq; have := HFB.out; have := B8.out.size; omega) B9.out B9.out.size)
  clear l10 k10 z10
  have BL := Lib.hid (fun v => blocks_any b5 rff v)
  have L11 := Lib.hid (FlV.below L10.out ((Below.refl _ w10).alloc (Nat.le_refl _) (.cells #[.slice none 0 0] 43)))
  obtain ⟨y0, y1, y2, y3⟩ := L11.out.cells
  go_wp2_with fail
  refine (BL.out _).mono ?_
  rintro e W2 ⟨Bs2, Bf2, rfl, hv2, hc2, b2⟩
  obtain ⟨r8, h8⟩ : ∃ r, r = w10.heap.size := ⟨_, rfl⟩
  have BA : Hid (Below w5.heap.size w5 W2) := Lib.hid ((B10.out.alloc B10.out.size (.cells #[.slice none 0 0] 43)).trans (b2.mono (by have := B10.out.size; simp; omega)))
  have hw5 : w5.heap.size ≤ r8 := by have := B10.out.size; omega
  have hr8 : r8 < W2.heap.size := by have := b2.size; simp at this; omega
  have hw2 : w5.heap.size ≤ W2.heap.size := by omega
  have A8 : Hid (Arr W2 r8 43 [.slice none 0 0]) := Lib.hid (by rw [h8]; exact (Arr.new w10 _ _).below b2)
  rw [← h8]
  have hfb : fb < r8 := by have := Arr.lt L10.out; omega
  clear h8
  have LF : Hid (FlV W2 fb rff) := Lib.hid (L11.out.below b2)
  have SQ := Lib.hid (blocks_seq F5 b5 T rff Bs2 Bf2 W2 (ST5.out.below BA.out) FO.out hv2 hc2 (by rw [RO.out.2.disk, RPH.out.wt]; decide) w5.heap.size hw2 ST5.out.lt blocksT (fun t ht => ht))
  have I0 : Hid (SrI w5 r8 fb rff [] W2) := Lib.hid ⟨⟨none, 0, A8.out, OwnI.nil _ _⟩, LF.out, (fun x hx => nomatch hx), rfl, BA.out⟩
  clear BL y0 y1 y2 y3 b2 hv2 hc2 A8 L11
  go_wp2_with fail
  have CHP : Hid (chainP T.dk rff = [⟨rx.1, rx.2, 0⟩, ⟨ry.1, ry.2, 0⟩]) := Lib.hid (by rw [RO.out.2.disk]; exact (RO.out.2.has.l (rff, [rx, ry]) (by simp)).pts RPH.out.fr.off)
  refine (wpIn_wide (n := 5)).1 ?_
  refine range_R (m := 5) (gf := 36) (lb := #[.pointer (some ⟨Bs2, 0, none⟩), .pointer (some ⟨Bf2, 0, none⟩)]) rfl (enters_of Try.func36 (by kernel_rfl) rfl)
    SQ.out KpT.trans (KpT.put hw2) (Below.refl _ _) (fun _ => rfl)
    (fun pre V => SrI w5 r8 fb rff pre V ∧ W2.heap.size ≤ V.heap.size)
    (fun _ _ _ => False)
    ((srI_own (by omega) (by omega) hw2 (by decide)).and size_ownT)
    (fun c => fun _ _ _ _ h _ _ => h)
    ⟨I0.out, Nat.le_refl _⟩
    (fun pre x a' V => (PtR w5.heap.size x V ∧ PtNext (chainP T.dk rff) pre x) ∧ a' = { tmps := #[Value.bool false, Value.pointer (some { block := d, off := 0 }), Value.pointer (some { block := b, off := 0 }), Value.int IntKind.i64 0, Value.pointer (some { block := b5, off := 0 }), Value.int IntKind.i64 0, Value.pointer (some { block := fb, off := 0 }), Value.bool true, Value.pointer (some { block := r8, off := 0 }), Value.slice x.A x.n x.cap, Value.int IntKind.i64 x.st, undef, undef, Value.pointer (some { block := d, off := 0 }), Value.pointer (some { block := d, off := 0 }), Value.bool false, Value.tuple #[Value.pointer (some { block := b, off := 0 }), Value.int IntKind.i64 0], Value.pointer (some { block := d, off := 0 }), Value.agg #[Value.int IntKind.i64 0, Value.int IntKind.i64 0, Value.int IntKind.i64 0, Value.int IntKind.i64 0], Value.map (some mb), Value.slice (some { block := g, off := 0 }) 200 200, Value.map (some mb), Value.tuple #[Value.pointer (some { block := b, off := 0 }), Value.int IntKind.i64 0], Value.pointer (some { block := b, off := 0 }), Value.int IntKind.i64 0, Value.pointer (some { block := b, off := 0 }), Value.bool false, Value.bool false, Value.int IntKind.i64 0, Value.bool false, Value.bool false, Value.tuple #[Value.pointer (some { block := b5, off := 0 }), Value.int IntKind.i64 0], Value.pointer (some { block := d, off := 0 }), Value.tuple #[Value.pointer (some { block := b5, off := 0 }), Value.int IntKind.i64 0], Value.pointer (some { block := b5, off := 0 }), Value.int IntKind.i64 0, Value.pointer (some { block := b5, off := 0 }), Value.bool false, Value.bool false, Value.int IntKind.i64 0, Value.bool false, Value.bool false, Value.bool false, Value.pointer (some { block := b5, off := 0 }), Value.int IntKind.i64 4, Value.bool false, Value.bool false, Value.bool false, Value.pointer (some { block := b5, off := 0 }), Value.agg #[Value.int IntKind.i64 1, Value.int IntKind.i64 Ct.zero.step, Value.int IntKind.i64 Ct.zero.status, Value.bool Ct.zero.ended, Value.int IntKind.i64 Ct.zero.card.frm, Value.int IntKind.i64 Ct.zero.card.to_, Value.int IntKind.i64 Ct.zero.card.budget, Value.int IntKind.i64 Ct.zero.card.fan, Value.slice A6 n6 c6], Value.int IntKind.i64 1, Value.bool false, Value.bool false, Value.tuple #[Value.agg (flv rff).toArray, Value.bool true], Value.pointer (some { block := b5, off := 0 }), Value.agg (ctv { gen := 1, step := Ct.zero.step, status := Ct.zero.status, ended := Ct.zero.ended, card := Ct.zero.card, files := [rff] } A7 n7 c7).toArray, Value.tuple #[Value.agg (flv rff).toArray, Value.bool true], Value.agg (flv rff).toArray, Value.bool true, Value.pointer (some { block := b5, off := 0 }), Value.agg #[Value.int IntKind.i64 rff.name, Value.int IntKind.i64 rff.file, Value.int IntKind.i64 rff.first, Value.int IntKind.i64 rff.blocks], Value.func (.func 36) #[] #[Value.pointer (some { block := Bs2, off := 0 }), Value.pointer (some { block := Bf2, off := 0 })], Value.slice x.A x.n x.cap, Value.int IntKind.i64 x.st, undef, undef, undef, undef, undef, undef, undef, undef, undef, undef, undef, undef, undef, undef, undef, undef, undef, undef, undef, undef, undef, undef, undef, undef, undef, undef, undef, undef], defers := [] })
    (fun pre x a' _ X Y row hs hg hr => ⟨⟨hs.1.1.grown hg hr, hs.1.2⟩, hs.2⟩)
    ?assign ?body ?done ?stop
  case assign =>
    rintro l2 pre x V K ⟨hi, hn2⟩ ⟨hR, hN⟩ hK
    have HK := Lib.hid hK; have HI := Lib.hid hi
    have HN := Lib.hid (show PtR w5.heap.size x V ∧ PtNext (chainP T.dk rff) pre x from ⟨hR, hN⟩)
    clear hK hR hN hi
    unfold blkEncs
    gi_wp2
    exact HK.out _ _ (KeepsFrom.refl _ _) (KpT.refl _ _ _) ⟨HI.out, hn2⟩ ⟨HN.out, rfl⟩
  case body =>
    rintro l2 pre x a' V hl ⟨r, hr⟩ ⟨hi, hn2⟩ ⟨⟨hR, hN⟩, rfl⟩
    obtain ⟨⟨A, c, a8, ow⟩, fl, ln, ok, bb⟩ := hi
    have FLH := Lib.hid fl
    have HN := Lib.hid hN; have HOK := Lib.hid ok; have HB := Lib.hid bb; have OW := Lib.hid ow; have A8 := Lib.hid a8
    have hVs : w5.heap.size ≤ V.heap.size := by omega
    have PL : Hid (pre.length ≤ 1 ∧ x.st = 0) := Lib.hid (by
      obtain ⟨post, h1⟩ := hN
      rw [CHP.out] at h1
      have h2 := congrArg List.length h1
      simp at h2
      refine ⟨by omega, ?_⟩
      have hm : PtV.pt x ∈ ([⟨rx.1, rx.2, 0⟩, ⟨ry.1, ry.2, 0⟩] : List Pt) := by rw [← h1]; simp
      simp at hm
      rcases hm with h | h <;> exact (congrArg Pt.st h))
    have hx := PL.out.2
    have hpl := PL.out.1
    clear hr hN ok bb ow a8 fl
    rcases hR with ⟨-, g1, hg1, ⟨hl1, hl2, -, -⟩, hown⟩ | ⟨hx1, -⟩
    case inr => exact absurd hx hx1
    have hxn : x.n ≤ 1000000 := by omega
    have eq : (x.st == 0) = true := by simp [hx]
    have E0 : Hid (chainEnd ((pre ++ [x]).map PtV.pt) = 0) := Lib.hid (by rw [List.map_append]; exact (chainEnd_snoc _ _ HOK.out).trans hx)
    have c8 : V.cell? ⟨r8, 0, none⟩ = some (.slice A pre.length c) := A8.out.cell 0
    have z8 := A8.out.frozen 0
    have LN : Hid (∀ y, y ∈ pre ++ [x] → y.bytes.length = y.n) := Lib.hid (fun y hy => by
      rcases List.mem_append.1 hy with q | q
      · exact ln y q
      · rw [List.mem_singleton] at q; rw [q]; exact hl1)
    clear hx hg1 hl1 hl2 hown ln
    gi_wp2_with (gi_at_builtin; refine app_in_i _ rfl _ _ rfl w5.heap.size pre.length c A _ rfl (OW.out.below ((Below.refl _ V).alloc (Nat.le_refl _) _)) V.heap.size 1 (x.n : Int) rfl (by have := Arr.cell (Arr.new V 3 [.int .i64 (x.n : Int)]) 0; exact this) ⟨by omega, by omega⟩ (by omega) (by simp; omega) ?_)
    intro A' cap' w' ow2 hg
    have bV := (Below.refl _ V).alloc (Nat.le_refl _) (.cells #[.int .i64 (x.n : Int)] 3)
    have OWa := OW.out.below bV
    have B8' := Lib.hid (arr_grown (A8.out.below bV) hg OWa.1 (by decide))
    have FL2 : Hid (FlV w' fb rff) := Lib.hid (arr_grown (FlV.below FLH.out bV) hg OWa.1 (by decide))
    have KP := Lib.hid ((KpT.of_below (T := blocksT) bV (by omega : w5.heap.size ≤ V.heap.size)).trans (kpT_grown hg OWa.1 (Nat.le_refl _) (by decide) (by simp; omega)))
    have KO := Lib.hid ((KeepsOthers.alloc V (.cells #[.int .i64 (x.n : Int)] 3)).trans (others_grown hg OWa.1))
    have HB2 := Lib.hid (HB.out.trans KP.out.1)
    have OW2 : Hid (OwnI w' w5.heap.size A' (pre ++ [x]).length cap' ((pre ++ [x]).map fun x => (x.n : Int))) := Lib.hid (by
      rw [List.map_append, List.length_append]; exact ow2)
    have c8 : w'.cell? ⟨r8, 0, none⟩ = some (.slice A pre.length c) := B8'.out.cell 0
    have z8 := B8'.out.frozen 0
    have hV' : V.heap.size ≤ w'.heap.size := KP.out.2.1
    clear bV OWa ow2 hg
    gi_wp2
    refine ⟨(KO.out.trans (KeepsOthers.setCell _ _ _)).from _, KP.out.trans (kpT_set B8'.out (by decide) (by omega) _), ⟨⟨A', cap', ?_, OW2.out.far B8'.out (by decide) _⟩, Arr.far FL2.out (by omega) _, LN.out, E0.out, HB2.out.setCell (p := ⟨r8, 0, none⟩) (by show w5.heap.size ≤ r8; omega) _⟩, by rw [setCell_size]; omega⟩
    rw [List.length_append]
    exact B8'.out.set 0 _
  case done =>
    rintro D xs V hD hS ⟨⟨⟨A, c, a8, ow⟩, fl, ln, ok, bb⟩, hs⟩ hK
    have HK := Lib.hid hK; have HB := Lib.hid bb; have OWS := Lib.hid ow; have A8 := Lib.hid a8
    have XS : Hid (xs.length = 2 ∧ (xs.map fun x => (x.n : Int)) = [116, 84]) := Lib.hid (by
      have h : xs.map PtV.pt = chainP T.dk rff := hS
      rw [CHP.out] at h
      obtain ⟨q1, q2⟩ := two_len h ln
      refine ⟨q1, q2.trans ?_⟩
      show [(rx.2.length : Int), (ry.2.length : Int)] = [116, 84]
      rw [RL1.out, RL2.out]
      rfl)
    have FLD := Lib.hid fl
    obtain ⟨z0, z1, z2, z3⟩ := FlV.cells fl
    have c8 : V.cell? ⟨r8, 0, none⟩ = some (.slice A xs.length c) := a8.cell 0
    clear hK ok bb ow a8 fl ln
    have ST7 := Lib.hid (show StAt V F5 b5 T from ST5.out.below HB.out)
    have BY := Lib.hid (bytes_any F5 b5 T rff V ST7.out FO.out (by rw [RO.out.2.disk, RPH.out.wt]; decide) (by have := (RO.out.2.has.l (rff, [rx, ry]) (by simp)).n; rw [this]; show ((2 : Nat) : Int) ≤ 600; decide))
    go_wp2_with fail
    refine BY.out.mono ?_
    rintro e Wb ⟨bb9, A9, n9, c9, rfl, own9⟩
    have B9b := Lib.hid bb9; have O9 := Lib.hid own9
    have A8b : Hid (Arr Wb r8 43 [.slice A xs.length c]) := Lib.hid (A8.out.below bb9)
    have CS : chainS T.dk rff = 0 := by rw [RO.out.2.disk]; exact (RO.out.2.has.l (rff, [rx, ry]) (by simp)).status RPH.out.fr.off
    rw [CS]
    have c8b : Wb.cell? ⟨r8, 0, none⟩ = some (.slice A xs.length c) := A8b.out.cell 0
    clear BY bb9 own9
    have OWS' : Hid (OwnI Wb w5.heap.size A 2 c [116, 84]) := Lib.hid (by
      have h := OWS.out.below B9b.out
      rw [XS.out.2, XS.out.1] at h
      exact h)
    rw [XS.out.1] at c8b
    go_wp2_with fail
    obtain ⟨Wl, hWl⟩ : ∃ W, W = Wb.alloc (.cells #[.int .i64 116, .int .i64 84] 3) := ⟨_, rfl⟩
    have BL' : Hid (Below Wb.heap.size Wb Wl) := Lib.hid (by rw [hWl]; exact (Below.refl _ _).alloc (Nat.le_refl _) _)
    have LIT : Hid (Arr Wl Wb.heap.size 3 [.int .i64 116, .int .i64 84]) := Lib.hid (by rw [hWl]; exact Arr.new Wb _ _)
    have SA := Lib.hid (isame_yes Wl.heap.size A (some ⟨Wb.heap.size, 0, none⟩) 2 c 2 [116, 84] Wl (by decide) rfl ((OWS'.out.below BL'.out).reads') (fun i hi => ⟨_, _, rfl, LIT.out.lt, by
      match i, hi with
      | 0, _ => exact LIT.out.cell 0
      | 1, _ => exact LIT.out.cell 1, by
      match i, hi with
      | 0, _ => exact ⟨by decide, by decide⟩
      | 1, _ => exact ⟨by decide, by decide⟩⟩) (Nat.le_refl _))
    rw [← hWl]
    clear hWl
    refine SA.out.mono ?_
    rintro e Wm ⟨rfl, bm9⟩
    have BM := Lib.hid bm9
    clear SA bm9
    have MK2 := Lib.hid (mk_any 3 200 ⟨by decide, by decide⟩ (by decide) Wm)
    go_wp2_with fail
    refine MK2.out.mono ?_
    rintro e Wn ⟨g3, rfl, hown3, hb3⟩
    have O3 := Lib.hid hown3; have BN := Lib.hid hb3
    clear MK2 hown3 hb3
    have BB : bytesL T.dk rff = mkB 3 200 := by
      unfold bytesL
      rw [if_pos CS, CHP.out, ← RCAT.out]
      simp [ptsB]
    have B9n := Lib.hid (bstep (bstep BL'.out BM.out) BN.out)
    have n9e : n9 = 200 := by have h := O9.out.2.1; rw [BB] at h; rw [← h]; exact mkB_len 3 200
    have SB := Lib.hid (bsame_yes Wn.heap.size A9 (some ⟨g3, 0, none⟩) 200 c9 200 (mkB 3 200) Wn (by decide) (mkB_len 3 200) (by have h := (O9.out.below B9n.out).reads; rw [BB] at h; exact h) O3.out.reads (Nat.le_refl _))
    subst n9e
    go_wp2_with fail
    refine SB.out.mono ?_
    rintro e Wz ⟨rfl, bz⟩
    go_wp2_with fail
    have b03 := Lib.hid (bstep B1.out B13.out)
    have b04 := Lib.hid (K4.out.below HF.out b03.out b03.out.size)
    have b05 := Lib.hid (K5.out.below (fun q hq => by
      rcases SB4.out q (HFE.out q hq) with e | e
      · exact HF.out q e
      · have := b03.out.size; omega) b04.out b04.out.size)
    have bVz := Lib.hid (bstep (bstep B9b.out B9n.out) bz)
    have bz5 := Lib.hid (bstep (bstep b05.out HB.out) bVz.out)
    have hk : Wz.heap[D]? = some (.deferred (some [])) := by
      rw [bVz.out.block D (Array.getElem?_eq_some_iff.1 HK.out).1]; exact HK.out
    refine ⟨by simp, .inl ⟨_, _, rfl, run_takeDeferred hk, ?_⟩⟩
    exact ⟨_, results_tmp rfl _ _ _, rfl, below_put bz5.out (by have := b05.out.size; omega) hk⟩
  case stop =>
    rintro D c pre V hD hSp hf hK
    exact hf.elim
end Go.Proofs.Ytilmicekpclmbaa
