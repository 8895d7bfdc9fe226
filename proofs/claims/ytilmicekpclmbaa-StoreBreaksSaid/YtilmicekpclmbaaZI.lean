/-
  The law's own 'bytes' of a file: all of it, or the status.
  Bytes of a number, so many.
  Store, maths alone: the runs' file of 200 bytes has two blocks, and leaves four of eight.
-/
import Derived.Test.YtilmicekpclmbaaZG
import Derived.Test.YtilmicekpclmbaaZH
namespace Go.Proofs.Ytilmicekpclmbaa
set_option linter.unusedVariables false
set_option linter.unusedSimpArgs false
set_option maxRecDepth 100000
open Go.RowKit Go.Shelf
attribute [local go_sem] Oper.semAt_some

theorem OwnB.far {w : World} {base q k n cap : Nat} {A : Option Addr} {l : List Int} {t : TypeId} {vs : List Value} (h : OwnB w base A n cap l) (ha : Arr w q t vs) (ht : t ≠ 5) (v : Value) : OwnB (w.setCell ⟨q, k, none⟩ v) base A n cap l :=
  h.same (fun a e => Below.heap_setCell _ _ _ _ (h.1.ne (r := q) (T := t) ha ht a e))
theorem OwnB.put {W : World} {base D n cap : Nat} {A : Option Addr} {l : List Int} (h : OwnB W base A n cap l) (hK : W.heap[D]? = some (.deferred (some []))) : OwnB (W.putObj D (.deferred none)) base A n cap l :=
  h.same (fun a ha => World.putObj_heap_other (fun e => by
    obtain ⟨cur, hc⟩ := h.1.kind a ha
    rw [e, hK] at hc; cases hc))
/-- What the bytes of a file are. -/
def ptsB (l : List Pt) : List Int := (l.map Pt.bytes).flatten
noncomputable def bytesL (s : Dk) (f : Fl) : List Int := if chainS s f = 0 then ptsB (chainP s f) else []
def BytesE (s : Dk) (f : Fl) (w : World) (e : Ending) (w' : World) : Prop := Below w.heap.size w w' ∧ ∃ A n c, e = .returned (.tuple #[.slice A n c, .int .i64 (chainS s f)]) ∧ OwnB w' w.heap.size A n c (bytesL s f)
theorem results_bytes (T : Array Value) (w : World) (p q : Nat) (v u : Value) (h4 : T.getD 4 undef = .pointer (some ⟨p, 0, none⟩)) (h5 : T.getD 5 undef = .pointer (some ⟨q, 0, none⟩)) (c4 : w.cell? ⟨p, 0, none⟩ = some v) (c5 : w.cell? ⟨q, 0, none⟩ = some u) : (results Try.f15 T).run Try.prog w = .ok (.tuple #[v, u]) w := by
  have e : Try.f15.results = #[.cell 4 30, .cell 5 25] := rfl
  rw [Array.getD_eq_getD_getElem?] at h4 h5
  unfold results
  rw [e]
  simp [go_sem, h4, h5, c4, c5]
/-- The invariant of the loop over the blocks. -/
structure ByI (w : World) (r4 r5 r6 : Nat) (pre : List PtV) (V : World) : Prop where
  a4 : Arr V r4 30 [.slice none 0 0]
  a5 : Arr V r5 25 [.int .i64 0]
  row : ∃ A n c, Arr V r6 30 [.slice A n c] ∧ OwnB V w.heap.size A n c (ptsB (pre.map PtV.pt)) ∧ n ≤ 116 * pre.length
  ok : chainEnd (pre.map PtV.pt) = 0
  b : Below w.heap.size w V
theorem byI_own {T : List TypeId} {w : World} {r4 r5 r6 B : Nat} (h4 : r4 < B) (h5 : r5 < B) (h6 : r6 < B) (hw : w.heap.size ≤ B) (hT : 5 ∉ T) : OwnT T B (ByI w r4 r5 r6) := fun pre X Y row hs hg hr => by
  obtain ⟨a4, a5, ⟨A, n, c, a6, ow, hn⟩, ok, b⟩ := hs
  refine ⟨(arr_ownT (β := Unit) h4) () X Y row a4 hg hr, (arr_ownT (β := Unit) h5) () X Y row a5 hg hr, ⟨A, n, c, (arr_ownT (β := Unit) h6) () X Y row a6 hg hr, ow.same (fun a ha => ?_), hn⟩, ok, (ownT_below (β := Unit) hw (Nat.le_refl _)) () X Y row b hg hr⟩
  obtain ⟨cur, hc⟩ := ow.1.kind a ha
  exact Turn.other hg hr hc (Or.inr hT)
def ByX (w : World) (r4 r5 : Nat) (c : Code) (pre : List PtV) (V : World) : Prop := c = .ret ∧ (chainEnd (pre.map PtV.pt) ≠ 0 ∧ Arr V r4 30 [.slice none 0 0] ∧ Arr V r5 25 [.int .i64 (chainEnd (pre.map PtV.pt))]) ∧ Below w.heap.size w V
theorem byX_own {T : List TypeId} {w : World} {r4 r5 B : Nat} (h4 : r4 < B) (h5 : r5 < B) (hw : w.heap.size ≤ B) (c : Code) : OwnT T B (ByX w r4 r5 c) := fun pre X Y row hs hg hr => by
  obtain ⟨e, ⟨ne, a4, a5⟩, b⟩ := hs
  exact ⟨e, ⟨ne, (arr_ownT (β := Unit) h4) () X Y row a4 hg hr, (arr_ownT (β := Unit) h5) () X Y row a5 hg hr⟩, (ownT_below (β := Unit) hw (Nat.le_refl _)) () X Y row b hg hr⟩
set_option maxHeartbeats 4000000 in
theorem bytes_any (F b s) (f : Fl) (w : World) (h : StAt w F b s) (hf : f.Ok) (hw : s.dk.wt.length ≤ 1000000) (hbl : f.blocks ≤ 600) :
    Calls Try.prog 15 #[.pointer (some ⟨b, 0, none⟩), .agg #[.int .i64 f.name, .int .i64 f.file, .int .i64 f.first, .int .i64 f.blocks]] w (BytesE s.dk f w) := by
  have H := Lib.hid h; have HFO := Lib.hid hf
  have HFN : Hid (∀ q, F q → q < w.heap.size) := Lib.hid h.lt
  have OKD := Lib.hid h.dok
  clear h hf
  refine (callsIn_wide (n := 5)).1 ?_
  refine callsIn_of_wp_marks Try.func15 rfl trivial ?_ rfl
  simp only [Try.ntmps15, List.size_toArray, List.length_cons, List.length_nil, Nat.reduceAdd, Nat.reduceSub, Array.replicate_succ, Array.replicate_zero, List.push_toArray, List.append_toArray, List.nil_append, List.cons_append]
  refine wpIn_wide.2 ?_
  go_upto_region 2 with fail
  have v0 := FlV.new w f
  have a4 := Arr.new (w.alloc (.cells #[.int .i64 f.name, .int .i64 f.file, .int .i64 f.first, .int .i64 f.blocks] 40)) 30 [.slice none 0 0]
  have a5 := Arr.new ((w.alloc (.cells #[.int .i64 f.name, .int .i64 f.file, .int .i64 f.first, .int .i64 f.blocks] 40)).alloc (.cells #[.slice none 0 0] 30)) 25 [.int .i64 0]
  have a6 := Arr.new (((w.alloc (.cells #[.int .i64 f.name, .int .i64 f.file, .int .i64 f.first, .int .i64 f.blocks] 40)).alloc (.cells #[.slice none 0 0] 30)).alloc (.cells #[.int .i64 0] 25)) 30 [.slice none 0 0]
  have b1 := ((((Below.refl _ w).alloc (Nat.le_refl _) (.cells #[.int .i64 f.name, .int .i64 f.file, .int .i64 f.first, .int .i64 f.blocks] 40)).alloc (by simp) (.cells #[.slice none 0 0] 30)).alloc (by simp; omega) (.cells #[.int .i64 0] 25)).alloc (by simp; omega) (.cells #[.slice none 0 0] 30)
  have V0 := ((Arr.below (Arr.below (Arr.below v0 ((Below.refl _ _).alloc (Nat.le_refl _) (.cells #[.slice none 0 0] 30))) ((Below.refl _ _).alloc (Nat.le_refl _) (.cells #[.int .i64 0] 25))) ((Below.refl _ _).alloc (Nat.le_refl _) (.cells #[.slice none 0 0] 30))))
  have A4 := (a4.below ((Below.refl _ _).alloc (Nat.le_refl _) (.cells #[.int .i64 0] 25))).below ((Below.refl _ _).alloc (Nat.le_refl _) (.cells #[.slice none 0 0] 30))
  have A5 := a5.below ((Below.refl _ _).alloc (Nat.le_refl _) (.cells #[.slice none 0 0] 30))
  simp only [World.size_alloc] at A4 A5 a6
  clear v0 a4 a5
  obtain ⟨W1, hW1⟩ : ∃ W1, W1 = (((w.alloc (.cells #[.int .i64 f.name, .int .i64 f.file, .int .i64 f.first, .int .i64 f.blocks] 40)).alloc (.cells #[.slice none 0 0] 30)).alloc (.cells #[.int .i64 0] 25)).alloc (.cells #[.slice none 0 0] 30) := ⟨_, rfl⟩
  rw [← hW1] at V0 A4 A5 a6 b1 ⊢
  obtain ⟨r6, h6⟩ : ∃ r, r = w.heap.size + 1 + 1 + 1 := ⟨_, rfl⟩
  obtain ⟨r5, h5⟩ : ∃ r, r = w.heap.size + 1 + 1 := ⟨_, rfl⟩
  obtain ⟨r4, h4⟩ : ∃ r, r = w.heap.size + 1 := ⟨_, rfl⟩
  rw [← h6] at a6 ⊢
  rw [← h5] at A5 ⊢
  rw [← h4] at A4 ⊢
  have i3 : w.heap.size < r4 := by omega
  have i4 : r4 < r5 := by omega
  have i5 : r5 < r6 := by omega
  clear h6 h5 h4 hW1
  have i6 : r6 < W1.heap.size := a6.lt
  have S1 := Lib.hid (H.out.below b1)
  have V1 := Lib.hid V0; have A4 := Lib.hid A4; have A5 := Lib.hid A5; have A6 := Lib.hid a6; have B1 := Lib.hid b1
  clear V0 a6 b1 H
  obtain ⟨y0, y1, y2, y3⟩ := FlV.cells V1.out
  have PA := Lib.hid (blocks_any b f W1)
  go_wp2_with fail
  refine PA.out.mono ?_
  rintro e W2 ⟨Bs2, Bf2, rfl, hv2, hc2, b2⟩
  have hW2s : W1.heap.size ≤ W2.heap.size := b2.size
  have hw2 : w.heap.size ≤ W2.heap.size := by omega
  have SQ := Lib.hid (blocks_seq F b s f Bs2 Bf2 W2 (S1.out.below b2) HFO.out hv2 hc2 hw w.heap.size hw2 HFN.out blocksT (fun t ht => ht))
  have I0 : Hid (ByI w r4 r5 r6 [] W2) := Lib.hid ⟨A4.out.below b2, A5.out.below b2, ⟨none, 0, 0, A6.out.below b2, OwnB.nil _ _, Nat.le_refl _⟩, rfl, B1.out.trans (b2.mono B1.out.size)⟩
  clear PA y0 y1 y2 y3 b2 hv2 hc2 S1 V1 A4 A5 A6 B1
  go_wp2_with fail
  refine (wpIn_wide (n := 5)).1 ?_
  refine range_R (m := 5) (gf := 36) (lb := #[.pointer (some ⟨Bs2, 0, none⟩), .pointer (some ⟨Bf2, 0, none⟩)]) rfl (enters_of Try.func36 (by kernel_rfl) rfl)
    SQ.out KpT.trans (KpT.put hw2) (Below.refl _ _) (fun _ => rfl)
    (fun pre V => ByI w r4 r5 r6 pre V ∧ W2.heap.size ≤ V.heap.size)
    (ByX w r4 r5)
    ((byI_own (by omega) (by omega) (by omega) hw2 (by decide)).and size_ownT)
    (fun c => byX_own (by omega) (by omega) hw2 c)
    ⟨I0.out, Nat.le_refl _⟩
    (fun pre x a' V => (PtR w.heap.size x V ∧ PtNext (chainP s.dk f) pre x) ∧ a' = { tmps := #[.pointer (some ⟨b, 0, none⟩), .agg #[.int .i64 f.name, .int .i64 f.file, .int .i64 f.first, .int .i64 f.blocks], undef, .pointer (some ⟨w.heap.size, 0, none⟩), .pointer (some ⟨r4, 0, none⟩), .pointer (some ⟨r5, 0, none⟩), .pointer (some ⟨r6, 0, none⟩), .slice x.A x.n x.cap, .int .i64 x.st, .pointer (some ⟨b, 0, none⟩), .agg #[.int .i64 f.name, .int .i64 f.file, .int .i64 f.first, .int .i64 f.blocks], .func (.func 36) #[] #[.pointer (some ⟨Bs2, 0, none⟩), .pointer (some ⟨Bf2, 0, none⟩)], .slice x.A x.n x.cap, .int .i64 x.st, undef, undef, undef, undef, undef, undef, undef], defers := [] })
    (fun pre x a' _ X Y row hs hg hr => ⟨⟨hs.1.1.grown hg hr, hs.1.2⟩, hs.2⟩)
    ?assign ?body ?done ?stop
  case assign =>
    rintro l2 pre x V K ⟨hi, hn2⟩ ⟨hR, hN⟩ hK
    have HK := Lib.hid hK; have HI := Lib.hid hi
    have HN := Lib.hid (show PtR w.heap.size x V ∧ PtNext (chainP s.dk f) pre x from ⟨hR, hN⟩)
    clear hK hR hN hi
    unfold blkEncs
    gi_wp2
    exact HK.out _ _ (KeepsFrom.refl _ _) (KpT.refl _ _ _) ⟨HI.out, hn2⟩ ⟨HN.out, rfl⟩
  case body =>
    rintro l2 pre x a' V hl ⟨r, hr⟩ ⟨hi, hn2⟩ ⟨⟨hR, hN⟩, rfl⟩
    obtain ⟨a4, a5, ⟨A, n, c, a6, ow, hnn⟩, ok, bb⟩ := hi
    have HN := Lib.hid hN; have HOK := Lib.hid ok; have HB := Lib.hid bb; have OW := Lib.hid ow; have HNN := Lib.hid hnn
    have A4 := Lib.hid a4; have A5 := Lib.hid a5; have A6 := Lib.hid a6
    have hVs : w.heap.size ≤ V.heap.size := by omega
    have PL : Hid (pre.length ≤ f.blocks.toNat) := Lib.hid (by
      obtain ⟨post, h1⟩ := hN
      have h2 := congrArg List.length h1
      have h3 := @chainP_len s.dk f
      simp at h2
      omega)
    clear hr hN ok bb ow a4 a5 a6 hnn
    rcases hR with ⟨hx, g, hg0, ⟨hl1, hl2, -, -⟩, hown⟩ | ⟨hx, hA0, hn0, hc0, hb0, h67⟩
    · have ne : (x.st != 0) = false := by simp [hx]
      have hxn := hl1
      have c6 : V.cell? ⟨r6, 0, none⟩ = some (.slice A n c) := A6.out.cell 0
      have z6 := A6.out.frozen 0
      have E0 : Hid (chainEnd ((pre ++ [x]).map PtV.pt) = 0) := Lib.hid (by rw [List.map_append]; exact (chainEnd_snoc _ _ HOK.out).trans hx)
      have HOWN := Lib.hid hown; have HX := Lib.hid hx
      have HG0 := Lib.hid hg0
      rw [hg0]
      clear hx hown hg0
      gi_wp2_with (gi_at_builtin; refine app_in_b _ rfl _ _ rfl w.heap.size n c A _ rfl OW.out g x.n x.cap V.heap.size x.bytes rfl HOWN.out.reads hxn (by have := HNN.out; have := PL.out; omega) hVs ?_)
      intro A' cap' w' ow2 hg
      have OWa := OW.out
      have B6 := Lib.hid (arr_grown A6.out hg OWa.1 (by decide))
      have B4 := Lib.hid (arr_grown A4.out hg OWa.1 (by decide))
      have B5 := Lib.hid (arr_grown A5.out hg OWa.1 (by decide))
      have KP := Lib.hid (kpT_grown (T := blocksT) hg OWa.1 (Nat.le_refl _) (by decide) hVs)
      have KO := Lib.hid (others_grown hg OWa.1)
      have HB2 := Lib.hid (HB.out.trans KP.out.1)
      have OW2 : Hid (OwnB w' w.heap.size A' (n + x.n) cap' (ptsB ((pre ++ [x]).map PtV.pt))) := Lib.hid (by
        have e : ptsB ((pre ++ [x]).map PtV.pt) = ptsB (pre.map PtV.pt) ++ x.bytes := by simp [ptsB, PtV.pt]
        rw [e]; exact ow2)
      have c6 : w'.cell? ⟨r6, 0, none⟩ = some (.slice A n c) := B6.out.cell 0
      have z6 := B6.out.frozen 0
      have hV' : V.heap.size ≤ w'.heap.size := KP.out.2.1
      clear OWa ow2 hg
      gi_wp2
      exact ⟨(KO.out.trans (KeepsOthers.setCell _ _ _)).from _, KP.out.trans (kpT_set B6.out (by decide) (by omega) _), ⟨B4.out.far (by omega) _, B5.out.far (by omega) _, ⟨A', n + x.n, cap', B6.out.set 0 _, OW2.out.far B6.out (by decide) _, by have := HNN.out; rw [List.length_append]; show n + x.n ≤ 116 * (pre.length + 1); omega⟩, E0.out, HB2.out.setCell (p := ⟨r6, 0, none⟩) (by show w.heap.size ≤ r6; omega) _⟩, by rw [setCell_size]; omega⟩
    · have ne : (x.st != 0) = true := by rw [bne_iff_ne]; exact hx
      have z4 := A4.out.frozen 0; have z5 := A5.out.frozen 0
      have c4 : V.cell? ⟨r4, 0, none⟩ = some (.slice none 0 0) := A4.out.cell 0
      have c5 : V.cell? ⟨r5, 0, none⟩ = some (.int .i64 0) := A5.out.cell 0
      have E0 : Hid (chainEnd ((pre ++ [x]).map PtV.pt) = x.st) := Lib.hid (by rw [List.map_append]; exact chainEnd_snoc _ _ HOK.out)
      have HX := Lib.hid hx
      clear hx hA0 hn0 hc0 hb0 h67
      gi_wp2
      have x4 := (A4.out.set 0 (.slice none 0 0)).far (h := r4) (g := r5) (k := 0) (by omega) (.int .i64 x.st)
      have x5 := (A5.out.far (g := r4) (k := 0) (by omega) (.slice none 0 0)).set 0 (.int .i64 x.st)
      refine ⟨((KeepsOthers.setCell _ _ _).trans (KeepsOthers.setCell _ _ _)).from _, rfl, ⟨by rw [E0.out]; exact HX.out, x4, by rw [E0.out]; exact x5⟩, (HB.out.setCell (p := ⟨r4, 0, none⟩) (by show w.heap.size ≤ r4; omega) _).setCell (p := ⟨r5, 0, none⟩) (by show w.heap.size ≤ r5; omega) _⟩
  case done =>
    rintro D xs V hD hS ⟨⟨a4, a5, ⟨A, n, c, a6, ow, -⟩, ok, bb⟩, hs⟩ hK
    have HS := Lib.hid hS; have HK := Lib.hid hK; have HOK := Lib.hid ok; have HB := Lib.hid bb; have OW := Lib.hid ow
    have A4 := Lib.hid a4; have A5 := Lib.hid a5; have A6 := Lib.hid a6
    have c6 : V.cell? ⟨r6, 0, none⟩ = some (.slice A n c) := a6.cell 0
    have z4 := a4.frozen 0; have z5 := a5.frozen 0
    have c4 : V.cell? ⟨r4, 0, none⟩ = some (.slice none 0 0) := a4.cell 0
    have c5 : V.cell? ⟨r5, 0, none⟩ = some (.int .i64 0) := a5.cell 0
    clear hS hK ok bb ow a4 a5 a6
    go_wp2
    have x4 := (A4.out.set 0 (.slice A n c)).far (h := r4) (g := r5) (k := 0) (by omega) (.int .i64 0)
    have x5 := (A5.out.far (g := r4) (k := 0) (by omega) (.slice A n c)).set 0 (.int .i64 0)
    have ow := (OW.out.far A4.out (by decide) (.slice A n c) (k := 0)).far (A5.out.far (g := r4) (k := 0) (by omega) (.slice A n c)) (by decide) (.int .i64 0) (k := 0)
    have hb := (HB.out.setCell (p := ⟨r4, 0, none⟩) (by show w.heap.size ≤ r4; omega) (.slice A n c)).setCell (p := ⟨r5, 0, none⟩) (by show w.heap.size ≤ r5; omega) (.int .i64 0)
    have hk : ((V.setCell ⟨r4, 0, none⟩ (.slice A n c)).setCell ⟨r5, 0, none⟩ (.int .i64 0)).heap[D]? = some (.deferred (some [])) := by
      rw [Below.heap_setCell _ _ _ _ (fun e => by have e : D = r5 := e; omega), Below.heap_setCell _ _ _ _ (fun e => by have e : D = r4 := e; omega)]
      exact HK.out
    generalize (V.setCell ⟨r4, 0, none⟩ (.slice A n c)).setCell ⟨r5, 0, none⟩ (.int .i64 0) = V2 at x4 x5 ow hb hk ⊢
    refine ⟨by simp, .inl ⟨_, _, rfl, run_takeDeferred hk, ?_⟩⟩
    have e0 : chainS s.dk f = 0 := by unfold chainS; rw [← HS.out]; exact HOK.out
    refine ⟨_, results_bytes _ _ r4 r5 _ _ rfl rfl ((x4.put hk).cell 0) ((x5.put hk).cell 0), below_put hb (by omega) hk, A, n, c, by rw [e0], ?_⟩
    have e1 : bytesL s.dk f = ptsB (xs.map PtV.pt) := by unfold bytesL; rw [if_pos e0, ← HS.out]
    rw [e1]
    exact ow.put hk
  case stop =>
    rintro D c pre V hD hSp ⟨rfl, ⟨hne, a4, a5⟩, bb⟩ hK
    refine wpIn_wide.2 ?_
    have HS := Lib.hid hSp; have HK := Lib.hid hK; have HNE := Lib.hid hne; have A4 := Lib.hid a4; have A5 := Lib.hid a5; have HB := Lib.hid bb
    clear hSp hK hne a4 a5 bb
    go_wp2
    refine ⟨by simp, .inl ⟨_, _, rfl, run_takeDeferred HK.out, ?_⟩⟩
    have e0 : chainS s.dk f = chainEnd (pre.map PtV.pt) := by
      obtain ⟨post, h1⟩ := HS.out
      unfold chainS
      rw [← h1]
      exact chainEnd_app HNE.out
    have e1 : bytesL s.dk f = [] := by unfold bytesL; rw [if_neg (by rw [e0]; exact HNE.out)]
    refine ⟨_, results_bytes _ _ r4 r5 _ _ rfl rfl ((A4.out.put HK.out).cell 0) ((A5.out.put HK.out).cell 0), below_put HB.out (by omega) HK.out, none, 0, 0, by rw [e0], ?_⟩
    rw [e1]
    exact OwnB.nil _ _
end Go.Proofs.Ytilmicekpclmbaa
namespace Go.Proofs.Ytilmicekpclmbaa
set_option linter.unusedVariables false
set_option linter.unusedSimpArgs false
set_option maxRecDepth 100000
open Go.RowKit

def mkE (k : Int) (i : Nat) : Int := IntKind.u8.wrap (wrap64 (k + (i : Int) * 7))
def mkB (k : Int) (n : Nat) : List Int := (List.range n).map (mkE k)
theorem mkB_len (k : Int) (n : Nat) : (mkB k n).length = n := by unfold mkB; simp
theorem mkE_u8 (k : Int) (i : Nat) : U8 (mkE k i) := by
  unfold mkE
  generalize wrap64 (k + (i : Int) * 7) = z
  unfold U8
  have : IntKind.u8.wrap z = z % 256 := by
    have a : IntKind.u8.signed = false := rfl
    have b : (2 : Int) ^ IntKind.u8.bits = 256 := by decide
    unfold IntKind.wrap
    simp only [a, b]
    simp
  rw [this]
  omega
theorem mkB_at (k : Int) (n i : Nat) (h : i < n) : (mkB k n).getD i 0 = mkE k i := by unfold mkB; simp [h]
def MkL (k : Int) (n : Nat) (w : World) (e : Ending) (w' : World) : Prop := ∃ g, e = .returned (.slice (some ⟨g, 0, none⟩) n n) ∧ Own w' w.heap.size g n (mkB k n) ∧ Below w.heap.size w w'
def MkI (w : World) (g n : Nat) (k : Int) (j : Nat) (wr : World) : Prop :=
  ∃ us, Own wr w.heap.size g n us ∧ us.length = n ∧ (∀ i, i < j → us.getD i 0 = mkE k i) ∧ Below w.heap.size w wr
set_option maxHeartbeats 1000000 in
theorem mk_any (k : Int) (n : Nat) (hk : I64x k) (hn : n ≤ 1000) (w : World) :
    Calls Try.prog 9 #[.int .i64 k, .int .i64 n] w (MkL k n w) := by
  obtain ⟨k0, k1⟩ := hk
  go_enter Try.func9, Try.ntmps9
  go_wp2_with (with_reducible refine make_own _ rfl _ _ rfl w.heap.size n rfl rfl ?c1 ?c2 ?_)
  case c1 => omega
  case c2 => exact Nat.le_refl _
  intro w1 o1 b1
  have O1 := Lib.hid o1
  clear o1
  obtain ⟨g, hg⟩ : ∃ g, g = w.heap.size := ⟨_, rfl⟩
  have hgw : w.heap.size ≤ g := by omega
  have HG := Lib.hid hg
  clear hg
  go_wp2
  rw [← HG.out]
  go_loopw [12] (fun iv wr => ∃ j : Nat, j ≤ n ∧ iv = .int .i64 (j : Int) ∧ MkI w g n k j wr) (fun iv _ => n - (intOf iv).toNat)
  case atStart => exact ⟨0, Nat.zero_le _, rfl, zeros n, by have := O1.out; rw [← HG.out] at this; rw [← HG.out]; exact this, zeros_length _, fun i hi => absurd hi (by omega), b1⟩
  case round =>
    obtain ⟨j, hj, rfl, us, ou, hul, htk, bel⟩ := hrel
    by_cases hlt : j < n
    · have yu := ou.cell (k := j) (by omega)
      have fu := ou.frozen j
      have O3 := Lib.hid (ou.set j (mkE k j) (mkE_u8 k j))
      have L3 : Hid ((us.set j (mkE k j)).length = n) := Lib.hid (by rw [List.length_set]; exact hul)
      have FIN : Hid (∀ i, i < j + 1 → (us.set j (mkE k j)).getD i 0 = mkE k i) := Lib.hid (fun i hi => by
        rcases Nat.lt_or_ge i j with e | e
        · rw [List.getD_eq_getElem?_getD, List.getElem?_set_ne (by omega), ← List.getD_eq_getElem?_getD]; exact htk i e
        · have : i = j := by omega
          subst this
          rw [List.getD_eq_getElem?_getD, List.getElem?_set_self (by omega)]; rfl)
      clear ou hul htk
      have i1 : (0 : Int) ≤ (j : Int) := by omega
      have i2 : (j : Int) < (n : Int) := by omega
      have iw : IntKind.i64.wrap ((j : Int) * 7) = (j : Int) * 7 := IntWalk.i64_in _ (by omega)
      generalize us.getD j 0 = v at *
      go_wp2
      go_roundw
      case rel => exact ⟨j + 1, by omega, by go_num, _, (by have hv : wrap64 (k + (j : Int) * 7) % 256 = mkE k j := (IntKind.wrap_u8 _).symm.trans rfl; rw [hv]; exact O3.out), L3.out, FIN.out, bel.setCell hgw _⟩
      case measure => simp [intOf]; omega
    · have : j = n := by omega
      subst this
      have ho : Own wr w.heap.size g j (mkB k j) := by
        have e : us = mkB k j := List.ext_getElem (by rw [hul, mkB_len]) (fun i h1 h2 => by
          have a := htk i (by omega)
          have b := mkB_at k j i (by omega)
          rw [List.getD_eq_getElem?_getD, List.getElem?_eq_getElem h1] at a
          rw [List.getD_eq_getElem?_getD, List.getElem?_eq_getElem h2] at b
          exact a.trans b.symm)
        rw [← e]; exact ou
      have HO := Lib.hid ho
      clear ou hul htk ho
      go_wp2
      go_ret
      exact ⟨g, rfl, HO.out, bel⟩
end Go.Proofs.Ytilmicekpclmbaa
namespace Go.Proofs.Ytilmicekpclmbaa
set_option linter.unusedVariables false
set_option linter.unusedSimpArgs false
set_option maxRecDepth 100000
open Go.RowKit

theorem two_blocks {l : List (Int × List Int)} (hF : Full l) {bs : List Int} (h : (l.map (·.2)).flatten = bs) (hl : bs.length = 200) : ∃ x y, l = [x, y] ∧ x.2.length = 116 ∧ y.2.length = 84 ∧ x.2 ++ y.2 = bs := by
  obtain ⟨f1, f2⟩ := hF
  match l, h with
  | [], h => subst h; simp at hl
  | [x], h =>
    subst h
    have := f2 x (by simp)
    simp at hl; omega
  | [x, y], h =>
    subst h
    have a := f1 x (by simp)
    simp at hl
    exact ⟨x, y, rfl, a, by omega, by simp⟩
  | x :: y :: z :: r, h =>
    subst h
    have a := f1 x (by simp)
    have b := f1 y (by simp)
    simp at hl; omega
theorem count_four : ∀ x : Nat, x < 8 → ∀ y : Nat, y < 8 → 2 ≤ x → 2 ≤ y → x ≠ y → cntT ((List.range 8).map (fun j => decide (2 ≤ j ∧ j ≠ x ∧ j ≠ y))) = 4 := by decide
theorem free_four {free : List Bool} {x y : Int} (hl : free.length = 8) (hx : 2 ≤ x ∧ x < 8) (hy : 2 ≤ y ∧ y < 8) (hne : x ≠ y) (h : ∀ j : Nat, free.getD j false = true ↔ (2 ≤ j ∧ j < 8 ∧ (j : Int) ∉ [x, y])) : cntT free = 4 := by
  obtain ⟨a, rfl⟩ : ∃ a : Nat, x = (a : Int) := ⟨x.toNat, by omega⟩
  obtain ⟨b, rfl⟩ : ∃ b : Nat, y = (b : Int) := ⟨y.toNat, by omega⟩
  have e : free = (List.range 8).map (fun j => decide (2 ≤ j ∧ j ≠ a ∧ j ≠ b)) := by
    apply List.ext_getElem
    · simp [hl]
    · intro j h1 h2
      have hj : j < 8 := by omega
      have := h j
      rw [List.getD_eq_getElem?_getD, List.getElem?_eq_getElem h1] at this
      have this : free[j] = true ↔ (2 ≤ j ∧ j < 8 ∧ (j : Int) ∉ [(a : Int), (b : Int)]) := this
      rw [List.getElem_map, List.getElem_range]
      rw [Bool.eq_iff_iff, this, decide_eq_true_eq]
      simp
      omega
  rw [e]
  exact count_four a (by omega) b (by omega) (by omega) (by omega) (by omega)
theorem want_nil {fs : Int → Option (List Int)} : ∀ (k : Nat) (nm : Int), (∀ n, nm ≤ n → fs n = none) → want fs k nm = []
  | 0, nm, h => rfl
  | k + 1, nm, h => by rw [want_none (h nm (Int.le_refl _))]; exact want_nil k (nm + 1) (fun n hn => h n (by omega))
/-- The runs' files: one, of name 1. -/
def runFs (n : Int) : Option (List Int) := if n = 1 then some (mkB 3 200) else none
theorem runFs_want : want runFs 255 1 = [(1, mkB 3 200)] := by
  rw [show (255 : Nat) = 254 + 1 from rfl, want_some (show runFs 1 = some (mkB 3 200) from if_pos rfl), want_nil (fs := runFs) 254 (1 + 1) (fun n hn => if_neg (by omega))]
theorem runFs_ok : ∀ n bs, runFs n = some bs → bs.length ≤ 1000 ∧ ∀ j, j < bs.length → U8 (bs.getD j 0) := fun n bs h => by
  unfold runFs at h
  split at h
  · injection h with h
    subst h
    refine ⟨by rw [mkB_len]; decide, fun j hj => ?_⟩
    rw [mkB_len] at hj
    rw [mkB_at _ _ _ hj]
    exact mkE_u8 3 j
  · cases h
/-- What Format makes of it. -/
theorem runs_form (d : Nat) : (formF (Dk.new 8) d runFs).1 = 0 ∧ ∃ f x y, FormOk (Dk.new 8) d runFs (formF (Dk.new 8) d runFs).2 [(f, [x, y])] ∧ f.name = 1 ∧ x.2.length = 116 ∧ y.2.length = 84 ∧ x.2 ++ y.2 = mkB 3 200 := by
  obtain ⟨h0, fl, P⟩ := format_room d (Dk.Free.new 8) (Dk.Ok.new (by decide) (by decide)) (by show 2 < (List.replicate 8 (fillB 0)).length; rw [List.length_replicate]; decide) runFs runFs_ok (fun n hn => if_neg (by omega)) (by rw [runFs_want]; decide) (by
    rw [runFs_want]
    show ((mkB 3 200).length : Int) + 116 + 0 ≤ 116 * (((List.replicate 8 (fillB 0)).length : Int) - 2)
    rw [mkB_len, List.length_replicate]; decide)
  refine ⟨h0, ?_⟩
  have ht := P.told
  rw [runFs_want] at ht
  match fl, P, ht with
  | [], P, ht => cases ht
  | [z], P, ht =>
    unfold told at ht
    simp at ht
    obtain ⟨t1, t2⟩ := ht
    obtain ⟨x, y, e, e1, e2, e3⟩ := two_blocks (P.full z (by simp)) t2 (mkB_len 3 200)
    obtain ⟨f, l⟩ := z
    have e : l = [x, y] := e
    subst e
    exact ⟨f, x, y, P, t1, e1, e2, e3⟩
  | z :: z2 :: r, P, ht => unfold told at ht; simp at ht
end Go.Proofs.Ytilmicekpclmbaa
