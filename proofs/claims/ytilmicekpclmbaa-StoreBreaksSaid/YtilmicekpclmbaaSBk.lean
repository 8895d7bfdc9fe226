/-
  StoreBreaks: the walk.
-/
import Derived.Test.YtilmicekpclmbaaPBk
namespace Go.Proofs.Ytilmicekpclmbaa
set_option linter.unusedVariables false
set_option linter.unusedSimpArgs false
set_option maxRecDepth 100000
open Go.RowKit Go.Shelf
attribute [local go_sem] Oper.semAt_some

theorem name_act {C : Fence} {m : Nat} {P : Program} {c : Code} {Q : Exit → Act → World → Prop} {T : Array Value} {ds : List Deferred} {w : World} (h : ∀ T' Q', T' = T → Q' = Q → c.wpIn C m P Q' { tmps := T', defers := ds } w) : c.wpIn C m P Q { tmps := T, defers := ds } w := h T Q rfl rfl
/-- The variables of the first loop. -/
structure BkI (w1 W2 : World) (nk fb k : Nat) (f : Fl) (n : Nat) (V : World) : Prop where
  a : Arr V (nk + 1) 3 [.int .i64 (n : Int)]
  k : Arr V nk 3 [.int .i64 (k : Int)]
  fl : FlV V fb f
  b : Below w1.heap.size w1 V
  s : W2.heap.size ≤ V.heap.size
theorem BkI.own {T : List TypeId} {w1 W2 : World} {nk fb k : Nat} {f : Fl} (h1 : fb < nk) (h2 : nk + 1 < W2.heap.size) (h3 : w1.heap.size ≤ W2.heap.size) : OwnT T W2.heap.size (fun (n : Nat) V => BkI w1 W2 nk fb k f n V) :=
  fun n X Y row h hg hr => ⟨(arr_ownT (β := Unit) h2) () X Y row h.a hg hr, (arr_ownT (β := Unit) (by omega)) () X Y row h.k hg hr, (arr_ownT (β := Unit) (by omega)) () X Y row h.fl hg hr, (ownT_below (β := Unit) h3 (Nat.le_refl _)) () X Y row h.b hg hr, Nat.le_trans h.s hg.size⟩
def lastS (pre : List PtV) : Int := match pre.getLast? with
  | some x => x.st
  | none => 0
theorem lastS_of {xs : List PtV} {l : List Pt} {y : Pt} (h : xs.map PtV.pt = l ++ [y]) : lastS xs = y.st ∧ xs.length = l.length + 1 := by
  refine ⟨?_, by have := congrArg List.length h; simpa using this⟩
  have h2 := congrArg List.getLast? h
  rw [List.getLast?_map, List.getLast?_append] at h2
  unfold lastS
  cases hq : xs.getLast? with
  | none => rw [hq] at h2; simp at h2
  | some x =>
    rw [hq] at h2
    simp at h2
    show x.st = _
    rw [← h2]
    rfl
theorem lastS_snoc (pre : List PtV) (x : PtV) : lastS (pre ++ [x]) = x.st := by unfold lastS; rw [List.getLast?_append]; rfl
/-- The variables of the second loop. -/
structure BkJ (W3 : World) (sl : Nat) (pre : List PtV) (V : World) : Prop where
  a : Arr V sl 25 [.int .i64 (lastS pre)]
  n : Arr V (sl + 1) 3 [.int .i64 (pre.length : Int)]
  b : Below sl W3 V
theorem BkJ.own {T : List TypeId} {W3 : World} {sl : Nat} (h2 : sl + 1 < W3.heap.size) : OwnT T W3.heap.size (fun pre V => BkJ W3 sl pre V) :=
  fun n X Y row h hg hr => ⟨(arr_ownT (β := Unit) (by omega)) () X Y row h.a hg hr, (arr_ownT (β := Unit) h2) () X Y row h.n hg hr, (ownT_below (β := Unit) (by omega) (by omega)) () X Y row h.b hg hr⟩
set_option maxHeartbeats 16000000 in
theorem sbreaks_any (size stop : Int) (hz : -9223372036854775808 ≤ size ∧ size ≤ 9223372036854775807) (hs : -9223372036854775808 ≤ stop ∧ stop ≤ 9223372036854775807) (w : World) :
    Calls Try.prog 4 #[.int .i64 size, .int .i64 stop] w fun e w' => e = .returned (.bool true) ∧ Below w.heap.size w w' := by
  obtain ⟨X, hX⟩ : ∃ X : Nat → Int, X = fun j => if j = 0 then size else 0 := ⟨_, rfl⟩
  have X0 : X 0 = size := by rw [hX]; rfl
  have X1 : X 1 = 0 := by rw [hX]; rfl
  have X2 : X 2 = 0 := by rw [hX]; rfl
  have MD := Lib.hid (made_any 30 X ⟨by decide, by decide⟩ (fun j => by rw [hX]; show _ ≤ (if j = 0 then size else 0) ∧ (if j = 0 then size else 0) ≤ _; split <;> omega) w)
  obtain ⟨S, hS⟩ : ∃ S : Nat → Nat, (fun j => (X j % 301).toNat) = S := ⟨_, rfl⟩
  rw [hS, X0, X1, X2, show (24 + (30 : Int) % 37).toNat = 54 from rfl] at MD
  have S0 : ((S 0 : Nat) : Int) = size % 301 := by
    have a := Int.emod_nonneg size (show (301 : Int) ≠ 0 by decide)
    rw [← hS]; show (((X 0 % 301).toNat : Nat) : Int) = _; rw [X0]; omega
  have S3 : S 0 ≤ 300 := by have b := Int.emod_lt_of_pos size (show (0 : Int) < 301 by decide); omega
  have HS := Lib.hid S3
  obtain ⟨k, hk⟩ : ∃ k : Nat, stop % 4 = (k : Int) := ⟨(stop % 4).toNat, by have := Int.emod_nonneg stop (show (4 : Int) ≠ 0 by decide); omega⟩
  have hk3 : k ≤ 3 := by have := Int.emod_lt_of_pos stop (show (0 : Int) < 4 by decide); omega
  have WK := Lib.hid (fun W => show Calls Try.prog 19 #[.int .i64 stop, .int .i64 0, .int .i64 3] W fun e w' => e = .returned (.int .i64 (k : Int)) ∧ W = w' from (bwithin_any stop 0 3 hs.1 hs.2 (by decide) (by decide) (by decide) (by decide) W).mono (fun e w' ⟨he, hw⟩ => ⟨by rw [he]; congr 2; have e9 : stop % (3 - 0 + 1) = stop % 4 := rfl; omega, hw⟩))
  have WS := Lib.hid (fun W => show Calls Try.prog 19 #[.int .i64 size, .int .i64 0, .int .i64 300] W fun e w' => e = .returned (.int .i64 ((S 0 : Nat) : Int)) ∧ W = w' from (bwithin_any size 0 300 hz.1 hz.2 (by decide) (by decide) (by decide) (by decide) W).mono (fun e w' ⟨he, hw⟩ => ⟨by rw [he]; congr 2; have e9 : size % (300 - 0 + 1) = size % 301 := rfl; omega, hw⟩))
  clear X0 X1 X2 hS hX S0 hk hz hs
  refine (callsIn_wide (n := 5)).1 ?_
  refine callsIn_of_wp_marks Try.func4 rfl trivial ?_ rfl
  simp only [Try.ntmps4, List.size_toArray, List.length_cons, List.length_nil, Nat.reduceAdd, Nat.reduceSub, Array.replicate_succ, Array.replicate_zero, List.push_toArray, List.append_toArray, List.nil_append, List.cons_append]
  refine wpIn_wide.2 ?_
  go_wp2_with fail
  refine MD.out.mono ?_
  rintro e w1 ⟨d, b, F, s, fl, rfl, hst, hfo, hF, hb⟩
  obtain ⟨z1, z2, z3, rfl, ⟨hn1, hb1⟩, ⟨hn2, hb2⟩, hn3, hb3⟩ := made_three hfo.told
  obtain ⟨f, l⟩ := z1
  replace hn1 : f.name = 1 := hn1
  replace hb1 : (l.map (·.2)).flatten = mkB 0 (S 0) := hb1
  have hlies : Lies s.dk f l := hfo.has.l (f, l) (by simp)
  have hll : l.length ≤ 3 := full_le (hfo.full (f, l) (by simp)) (by rw [hb1, mkB_len]; exact HS.out)
  have hfk : f.blocks = (l.length : Int) := hlies.n
  have FO : Hid (f.Ok) := Lib.hid (by
    have := hfo.right
    rw [hfo.cat] at this
    have h := this.f 0 (by show 0 < 3; decide)
    have h : f.Right := h
    have := h.n; have := h.f; have := h.b; have := h.x
    exact ⟨⟨by omega, by omega⟩, ⟨by omega, by omega⟩, ⟨by omega, by omega⟩, ⟨by omega, by omega⟩⟩)
  have HFO := Lib.hid hfo; have ST := Lib.hid hst; have HF := Lib.hid hF; have B1 := Lib.hid hb; have HL := Lib.hid hlies; have HB1 := Lib.hid hb1; have HFK := Lib.hid hfk
  have CAT : Hid (s.cat = { Ct.zero with gen := 1, files := [f, z2.1, z3.1] }) := Lib.hid hfo.cat
  have FD : Hid (fndF [f, z2.1, z3.1] 1 = f ∧ fndK [f, z2.1, z3.1] 1 = true) := Lib.hid (by
    unfold fndF fndK fnd
    simp [hn1])
  have CA := Lib.hid (catalog_any F b s w1 hst (by rw [CAT.out]; show (3 : Nat) ≤ 1000; decide))
  clear MD hst hfo hF hb hlies hb1 hb2 hb3 hn1 hn2 hn3 hfk
  go_wp2_with fail
  refine CA.out.mono ?_
  rintro e w2 ⟨A7, n7, c7, rfl, ow7, b7⟩
  rw [CAT.out] at ow7 ⊢
  have OW7 := Lib.hid ow7; have B2 := Lib.hid b7
  have FN := Lib.hid (find_any { Ct.zero with gen := 1, files := [f, z2.1, z3.1] } w2.heap.size A7 n7 c7 1 w2 ow7.2.1 (by have := ow7.cap; unfold maxLen at *; omega) ow7.reads (Nat.le_refl _) ⟨by decide, by decide⟩)
  clear ow7 b7 CA
  go_wp2_with fail
  refine FN.out.mono ?_
  rintro e w8 ⟨rfl, b8⟩
  have e1 : fndF ({ Ct.zero with gen := 1, files := [f, z2.1, z3.1] } : Ct).files 1 = f := FD.out.1
  have e2 : fndK ({ Ct.zero with gen := 1, files := [f, z2.1, z3.1] } : Ct).files 1 = true := FD.out.2
  rw [e1, e2]
  have B8 := Lib.hid (bstep B2.out b8)
  clear FN b8 e1 e2
  go_wp2_with (with_reducible refine alloc_fl rfl rfl ?_)
  intro w9 l9 b9 z9
  obtain ⟨fb, hfb⟩ : ∃ fb, fb = w8.heap.size := ⟨_, rfl⟩
  rw [← hfb] at l9 ⊢
  have L9 : Hid (FlV w9 fb Fl.zero) := Lib.hid l9
  have B9 := Lib.hid (bstep B8.out b9); have HFB := Lib.hid hfb
  clear l9 b9 z9 hfb
  go_wp2_with (with_reducible refine store_fl rfl _ _ rfl fb Fl.zero f L9.out rfl rfl ?_)
  intro w10 l10 k10 z10
  have L10 : Hid (FlV w10 fb f) := Lib.hid l10
  have B10 : Hid (Below w1.heap.size w1 w10) := Lib.hid (k10.below (fun q hq => by have hq : q = fb := hq; have := HFB.out; have := B8.out.size; omega) B9.out B9.out.size)
  clear l10 k10 z10
  go_wp2_with fail
  refine (WK.out _).mono ?_
  rintro e w11 ⟨rfl, rfl⟩
  go_upto_region 7 with fail
  obtain ⟨w11, hw11⟩ : ∃ W, W = (w10.alloc (.cells #[.int .i64 (k : Int)] 3)).alloc (.cells #[.int .i64 0] 3) := ⟨_, rfl⟩
  rw [← hw11]
  obtain ⟨nk, hnk⟩ : ∃ z, w10.heap.size = z := ⟨_, rfl⟩
  have AK := Lib.hid (show Arr w11 nk 3 [.int .i64 (k : Int)] by rw [hw11, ← hnk]; exact Arr.below (Arr.new w10 _ [_]) ((Below.refl _ _).alloc (Nat.le_refl _) _))
  have AN := Lib.hid (show Arr w11 (nk + 1) 3 [.int .i64 0] by rw [hw11, ← hnk]; have h := Arr.new (w10.alloc (.cells #[.int .i64 (k : Int)] 3)) 3 [.int .i64 0]; rw [World.size_alloc] at h; exact h)
  have B11 := Lib.hid (show Below w1.heap.size w1 w11 by rw [hw11]; exact (B10.out.alloc B10.out.size _).alloc (by rw [World.size_alloc]; have := B10.out.size; omega) _)
  have L11 := Lib.hid (show FlV w11 fb f by rw [hw11]; exact FlV.below (FlV.below L10.out ((Below.refl _ w10).alloc (Nat.le_refl _) _)) ((Below.refl _ _).alloc (Nat.le_refl _) _))
  have hfb : fb < nk := by rw [← hnk]; exact Arr.lt L10.out
  have hnkb : w1.heap.size ≤ nk := by rw [← hnk]; exact B10.out.size
  rw [hnk]
  have BL := Lib.hid (fun v => blocks_any b f v)
  obtain ⟨y0, y1, y2, y3⟩ := L11.out.cells
  clear hw11 hnk
  go_wp2_with fail
  refine (BL.out _).mono ?_
  rintro e W2 ⟨Bs2, Bf2, rfl, hv2, hc2, b2⟩
  have BA : Hid (Below w1.heap.size w1 W2) := Lib.hid (B11.out.trans (b2.mono B11.out.size))
  have AK2 : Hid (Arr W2 nk 3 [.int .i64 (k : Int)]) := Lib.hid (Arr.below AK.out b2)
  have AN2 : Hid (Arr W2 (nk + 1) 3 [.int .i64 0]) := Lib.hid (Arr.below AN.out b2)
  have LF : Hid (FlV W2 fb f) := Lib.hid (FlV.below L11.out b2)
  have hw2 : w1.heap.size ≤ W2.heap.size := BA.out.size
  have hr8 : nk + 1 < W2.heap.size := Arr.lt AN2.out
  have SQ := Lib.hid (blocks_seq F b s f Bs2 Bf2 W2 (ST.out.below BA.out) FO.out hv2 hc2 (by rw [HFO.out.wt]; decide) w1.heap.size hw2 ST.out.lt blocksT (fun t ht => ht))
  have CHP : Hid (chainP s.dk f = l.map (fun x => ⟨x.1, x.2, 0⟩)) := Lib.hid (HL.out.pts HFO.out.fr.off)
  clear BL y0 y1 y2 y3 b2 hv2 hc2 AK AN L11
  go_wp2_with fail
  refine (wpIn_wide (n := 5)).1 ?_
  refine name_act ?_
  intro TM QM hTM hQM
  have TAIL : ∀ (D n : Nat) (V : World), W2.heap.size ≤ D → n = min k l.length → BkI w1 W2 nk fb k f n V → V.heap[D]? = some (.deferred (some [])) → QM .normal { tmps := TM, defers := [{ target := .collected D, args := #[] }] } V := by
    rintro D n V hD hn hi hK
    subst hTM hQM
    have HI := Lib.hid hi; have HK := Lib.hid hK; have HN := Lib.hid hn
    have BY := Lib.hid (bytes_any F b s f V (ST.out.below hi.b) FO.out (by rw [HFO.out.wt]; decide) (by rw [HFK.out]; omega))
    have CS : chainS s.dk f = 0 := HL.out.status HFO.out.fr.off
    have BB := Lib.hid (show bytesL s.dk f = mkB 0 (S 0) by
      unfold bytesL
      rw [if_pos CS, CHP.out, ← HB1.out]
      unfold ptsB
      rw [List.map_map]
      rfl)
    have CSH := Lib.hid CS
    obtain ⟨z0, z1, z2, z3⟩ := FlV.cells hi.fl
    clear hi hK hn CS
    go_wp2_with fail
    refine BY.out.mono ?_
    rintro e Wb ⟨bb9, A9, n9, c9, rfl, own9⟩
    rw [CSH.out]
    rw [BB.out] at own9
    have n9e : n9 = S 0 := by have h := own9.2.1; rw [← h]; exact mkB_len 0 (S 0)
    subst n9e
    have B9b := Lib.hid bb9; have O9 := Lib.hid own9
    have LFb := Lib.hid (FlV.below HI.out.fl bb9)
    obtain ⟨x0, x1, x2, x3⟩ := LFb.out.cells
    clear BY bb9 own9 z0 z1 z2 z3
    go_wp2_with (with_reducible refine alloc_fl rfl rfl ?_)
    intro v9 l9 b9 z9
    obtain ⟨gb, hgb⟩ : ∃ gb, gb = Wb.heap.size := ⟨_, rfl⟩
    rw [← hgb] at l9 ⊢
    have L9' : Hid (FlV v9 gb Fl.zero) := Lib.hid l9
    have B9' := Lib.hid b9; have HGB := Lib.hid hgb
    clear l9 b9 z9 hgb
    go_wp2_with (with_reducible refine store_fl rfl _ _ rfl gb Fl.zero f L9'.out rfl rfl ?_)
    intro v10 l10 k10 z10
    have L10' : Hid (FlV v10 gb f) := Lib.hid l10
    have B10' : Hid (Below Wb.heap.size Wb v10) := Lib.hid (k10.below (fun q hq => by have hq : q = gb := hq; have := HGB.out; omega) B9'.out B9'.out.size)
    obtain ⟨u0, u1, u2, u3⟩ := L10'.out.cells
    have fz : v10.frozen? ⟨gb, 3, none⟩ = false := Arr.frozen L10'.out 3
    have ew : IntKind.i64.wrap (f.blocks + 1) = f.blocks + 1 := by rw [HFK.out]; exact IntWalk.i64_in _ (by omega)
    clear l10 k10 z10 x0 x1 x2 x3
    go_upto_region 14 with fail
    obtain ⟨g, hg⟩ : ∃ g : Fl, g = { f with blocks := f.blocks + 1 } := ⟨_, rfl⟩
    obtain ⟨V11, hV11⟩ : ∃ W, W = ((v10.setCell ⟨gb, 3, none⟩ (.int .i64 (f.blocks + 1))).alloc (.cells #[.int .i64 0] 25)).alloc (.cells #[.int .i64 0] 3) := ⟨_, rfl⟩
    rw [← hV11]
    obtain ⟨sl, hsl⟩ : ∃ z, v10.heap.size = z := ⟨_, rfl⟩
    have sz1 : (v10.setCell ⟨gb, 3, none⟩ (.int .i64 (f.blocks + 1))).heap.size = sl := by rw [setCell_size]; exact hsl
    have BS : Below Wb.heap.size Wb (v10.setCell ⟨gb, 3, none⟩ (.int .i64 (f.blocks + 1))) := B10'.out.setCell (p := ⟨gb, 3, none⟩) (by show Wb.heap.size ≤ gb; have := HGB.out; omega) _
    have al1 : Below (v10.setCell ⟨gb, 3, none⟩ (.int .i64 (f.blocks + 1))).heap.size (v10.setCell ⟨gb, 3, none⟩ (.int .i64 (f.blocks + 1))) V11 := by rw [hV11]; exact ((Below.refl _ _).alloc (Nat.le_refl _) _).alloc (by rw [World.size_alloc]; omega) _
    have BV := Lib.hid (BS.trans (al1.mono BS.size))
    have GL := Lib.hid (show FlV V11 gb g by
      have h := Arr.set L10'.out 3 (.int .i64 (f.blocks + 1))
      rw [hg]
      exact Arr.below h al1)
    have AS := Lib.hid (show Arr V11 sl 25 [.int .i64 0] by
      rw [hV11, ← sz1]
      exact Arr.below (Arr.new _ _ [_]) ((Below.refl _ _).alloc (Nat.le_refl _) _))
    have AT := Lib.hid (show Arr V11 (sl + 1) 3 [.int .i64 0] by
      have h := Arr.new ((v10.setCell ⟨gb, 3, none⟩ (.int .i64 (f.blocks + 1))).alloc (.cells #[.int .i64 0] 25)) 3 [.int .i64 0]
      rw [World.size_alloc, sz1] at h
      rw [hV11]; exact h)
    have hWbs : Wb.heap.size ≤ sl := by rw [← sz1]; exact BS.size
    have hgs : gb < sl := by rw [← hsl]; exact Arr.lt L10'.out
    have GOK : Hid g.Ok := Lib.hid (by
      rw [hg]
      obtain ⟨q1, q2, q3, q4⟩ := FO.out
      have := HFK.out
      exact ⟨q1, q2, q3, by show -9223372036854775808 ≤ f.blocks + 1 ∧ f.blocks + 1 ≤ 9223372036854775807; omega⟩)
    have CHP2 : Hid (chainP s.dk g = l.map (fun x => ⟨x.1, x.2, 0⟩) ++ [⟨0, [], 6⟩]) := Lib.hid (by rw [hg]; exact HL.out.more HFO.out.fr.off)
    rw [hsl]
    have HG := Lib.hid hg
    have BL2 := Lib.hid (fun v => blocks_any b g v)
    obtain ⟨t0, t1, t2, t3⟩ := GL.out.cells
    clear hV11 hsl sz1 BS al1 hg u0 u1 u2 u3 fz
    go_wp2_with fail
    refine (BL2.out _).mono ?_
    rintro e W3 ⟨Bs3, Bf3, rfl, hv3, hc3, b3⟩
    have BW3 : Hid (Below Wb.heap.size Wb W3) := Lib.hid (BV.out.trans (b3.mono BV.out.size))
    have AS3 : Hid (Arr W3 sl 25 [.int .i64 0]) := Lib.hid (Arr.below AS.out b3)
    have AT3 : Hid (Arr W3 (sl + 1) 3 [.int .i64 0]) := Lib.hid (Arr.below AT.out b3)
    have GL3 : Hid (FlV W3 gb g) := Lib.hid (FlV.below GL.out b3)
    have hVW : V.heap.size ≤ Wb.heap.size := B9b.out.size
    have hV1 : w1.heap.size ≤ V.heap.size := HI.out.b.size
    have hs3 : sl + 1 < W3.heap.size := Arr.lt AT3.out
    have B1W3 : Hid (Below w1.heap.size w1 W3) := Lib.hid (HI.out.b.trans ((B9b.out.trans (BW3.out.mono hVW)).mono hV1))
    have SQ2 := Lib.hid (blocks_seq F b s g Bs3 Bf3 W3 (ST.out.below B1W3.out) GOK.out hv3 hc3 (by rw [HFO.out.wt]; decide) w1.heap.size (by omega) ST.out.lt blocksT (fun t ht => ht))
    clear BL2 t0 t1 t2 t3 b3 hv3 hc3
    go_wp2_with fail
    refine (wpIn_wide (n := 5)).1 ?_
    refine name_act ?_
    intro TM QM hTM hQM
    refine range_R (m := 5) (gf := 36) (lb := #[.pointer (some ⟨Bs3, 0, none⟩), .pointer (some ⟨Bf3, 0, none⟩)]) (by rw [hTM]; rfl) (enters_of Try.func36 (by kernel_rfl) rfl)
      SQ2.out KpT.trans (KpT.put (by omega)) (Below.refl _ _) (fun _ => rfl)
      (fun pre V => BkJ W3 sl pre V)
      (fun _ _ _ => False)
      (BkJ.own hs3)
      (fun c => fun _ _ _ _ h _ _ => h)
      ⟨AS3.out, AT3.out, (Below.refl W3.heap.size W3).mono (show sl ≤ W3.heap.size by omega)⟩
      (fun pre x a' V => pre.length ≤ 4 ∧ a' = { tmps := ((TM.setIfInBounds 58 (.slice x.A x.n x.cap)).setIfInBounds 59 (.int .i64 x.st)).setIfInBounds 17 (.int .i64 x.st), defers := [] })
      (fun pre x a' _ X Y row hs hg hr => hs)
      ?assign2 ?body2 ?done2 ?stop2
    case stop2 =>
      rintro D2 c pre V2 hD2' hSp hf hK2
      exact hf.elim
    case assign2 =>
      rintro l2 pre x V2 K hi ⟨_, post, hR⟩ hK2
      have hp4 : pre.length ≤ 4 := by
        rw [CHP2.out] at hR
        have := congrArg List.length hR
        simp at this
        omega
      subst hTM
      clear hR
      unfold blkEncs
      gi_wp2
      exact hK2 _ _ (KeepsFrom.refl _ _) (KpT.refl _ _ _) hi ⟨hp4, by first | rfl | simp⟩
    case body2 =>
      rintro l2 pre x a' V2 hl ⟨r, hr⟩ hi ⟨hp4, rfl⟩
      subst hTM
      have HJ := Lib.hid hi
      have c0 : V2.cell? ⟨sl, 0, none⟩ = some (.int .i64 (lastS pre)) := Arr.cell hi.a 0
      have f0 : V2.frozen? ⟨sl, 0, none⟩ = false := Arr.frozen hi.a 0
      have c1 : V2.cell? ⟨sl + 1, 0, none⟩ = some (.int .i64 (pre.length : Int)) := Arr.cell hi.n 0
      have f1 : V2.frozen? ⟨sl + 1, 0, none⟩ = false := Arr.frozen hi.n 0
      clear hi hr
      have ew : IntKind.i64.wrap (((pre.length : Nat) : Int) + 1) = ((pre.length + 1 : Nat) : Int) := by rw [IntWalk.i64_in _ (by omega)]; omega
      have e1 : (pre ++ [x]).length = pre.length + 1 := by rw [List.length_append]; rfl
      gi_wp2
      have A1 : Arr (V2.setCell ⟨sl, 0, none⟩ (.int .i64 x.st)) (sl + 1) 3 [.int .i64 (pre.length : Int)] := Arr.far HJ.out.n (by omega) _
      refine ⟨((KeepsOthers.setCell _ _ _).trans (KeepsOthers.setCell _ _ _)).from _, (kpT_set HJ.out.a (by decide) (by omega) _).trans (kpT_set A1 (by decide) (by omega) _), ⟨?_, ?_, (HJ.out.b.setCell (p := ⟨sl, 0, none⟩) (Nat.le_refl _) _).setCell (p := ⟨sl + 1, 0, none⟩) (Nat.le_succ _) _⟩⟩
      · rw [lastS_snoc]
        exact Arr.far (Arr.set HJ.out.a 0 _) (by omega) _
      · rw [e1, show (((pre.length + 1 : Nat)) : Int) = (pre.length : Int) + 1 by omega]
        exact Arr.set A1 0 _
    case done2 =>
      rintro D2 xs V2 hD2' hS hj hK2
      subst hTM hQM
      have hS' : xs.map PtV.pt = chainP s.dk g := hS
      rw [CHP2.out] at hS'
      obtain ⟨hls, hxl⟩ := lastS_of hS'
      rw [List.length_map] at hxl
      have BWV := Lib.hid (show Below Wb.heap.size Wb V2 from BW3.out.trans (hj.b.mono hWbs))
      have tr : ∀ {q t vs}, Arr V q t vs → Arr V2 q t vs := fun h => Arr.below (Arr.below h B9b.out) BWV.out
      have c0 : V2.cell? ⟨nk + 1, 0, none⟩ = some (.int .i64 (n : Int)) := Arr.cell (tr HI.out.a) 0
      have c1 : V2.cell? ⟨nk, 0, none⟩ = some (.int .i64 (k : Int)) := Arr.cell (tr HI.out.k) 0
      have c2 : V2.cell? ⟨fb, 3, none⟩ = some (.int .i64 f.blocks) := Arr.cell (tr HI.out.fl) 3
      have c3 : V2.cell? ⟨sl, 0, none⟩ = some (.int .i64 6) := by have h := Arr.cell hj.a 0; rw [hls] at h; exact h
      have c4 : V2.cell? ⟨sl + 1, 0, none⟩ = some (.int .i64 (f.blocks + 1)) := by
        have h := Arr.cell hj.n 0
        rw [hxl] at h
        have e : ((l.length + 1 : Nat) : Int) = f.blocks + 1 := by rw [HFK.out]; omega
        rw [e] at h; exact h
      have m1 : min (k : Int) f.blocks = (n : Int) := by rw [HFK.out, HN.out]; omega
      have HJ := Lib.hid hj; have HK2 := Lib.hid hK2
      have B1V2 : Hid (Below w1.heap.size w1 V2) := Lib.hid (HI.out.b.trans ((B9b.out.trans (BWV.out.mono hVW)).mono hV1))
      have MK := Lib.hid (mk_any 0 (S 0) ⟨by decide, by decide⟩ (by have := HS.out; omega) V2)
      have RD := Lib.hid (O9.out.below BWV.out)
      have C2 := Lib.hid c2; have C3 := Lib.hid c3; have C4 := Lib.hid c4
      clear hS hS' hls hxl hj hK2 tr
      go_wp2_with fail
      refine (WS.out _).mono ?_
      rintro e v ⟨rfl, rfl⟩
      go_wp2_with fail
      refine MK.out.mono ?_
      rintro e Vn ⟨g3, rfl, hown3, hb3⟩
      have O3 := Lib.hid hown3; have BN := Lib.hid hb3
      have SB := Lib.hid (bsame_yes Vn.heap.size A9 (some ⟨g3, 0, none⟩) (S 0) c9 (S 0) (mkB 0 (S 0)) Vn (by have := HS.out; omega) (mkB_len 0 (S 0)) ((RD.out.below hb3).reads) O3.out.reads (Nat.le_refl _))
      clear MK hown3 hb3 c0 c1 c2 c3 c4
      go_wp2_with fail
      refine SB.out.mono ?_
      rintro e Wz ⟨rfl, bz⟩
      have BZ := Lib.hid (bstep BN.out bz)
      have x2 : Wz.cell? ⟨fb, 3, none⟩ = some (.int .i64 f.blocks) := by rw [World.cell?_of_block (w := V2) (a := ⟨fb, 3, none⟩) (BZ.out.block fb (World.block_lt_of_cell? _ _ C2.out))]; exact C2.out
      have x3 : Wz.cell? ⟨sl, 0, none⟩ = some (.int .i64 6) := by rw [World.cell?_of_block (w := V2) (a := ⟨sl, 0, none⟩) (BZ.out.block sl (World.block_lt_of_cell? _ _ C3.out))]; exact C3.out
      have x4 : Wz.cell? ⟨sl + 1, 0, none⟩ = some (.int .i64 (f.blocks + 1)) := by rw [World.cell?_of_block (w := V2) (a := ⟨sl + 1, 0, none⟩) (BZ.out.block (sl + 1) (World.block_lt_of_cell? _ _ C4.out))]; exact C4.out
      have B1Z := Lib.hid (B1V2.out.trans (BZ.out.mono B1V2.out.size))
      obtain ⟨Fe, hde, hfe⟩ := (ST.out.below B1Z.out).disk
      rw [HFO.out.loc] at hde
      have DW := Lib.hid (disk_waits Fe d s.dk Wz hde (by rw [HFO.out.wt]; decide))
      rw [HFO.out.wt] at DW
      clear SB bz hde hfe
      go_wp2_with fail
      refine DW.out.mono ?_
      rintro e Wy ⟨rfl, m, hm⟩
      have BY := Lib.hid (show Below Wz.heap.size Wz Wy by rw [hm]; exact below_drewN (Below.refl _ _) m)
      have RU := Lib.hid (sruns_any Wy)
      clear DW hm x2 x3 x4
      go_wp2_with fail
      refine RU.out.mono ?_
      rintro e Wx ⟨rfl, bx⟩
      have BX := Lib.hid (bstep BY.out bx)
      clear RU bx
      have b0x := Lib.hid (bstep (bstep B1.out B1Z.out) BX.out)
      have hW2 := BA.out.size
      have hVs := HI.out.s
      have hDV : D < V.heap.size := (Array.getElem?_eq_some_iff.1 HK.out).1
      have hD2V : D2 < V2.heap.size := (Array.getElem?_eq_some_iff.1 HK2.out).1
      have b1x : Below V2.heap.size V2 Wx := bstep BZ.out BX.out
      have hk2 : Wx.heap[D2]? = some (.deferred (some [])) := by rw [b1x.block D2 hD2V]; exact HK2.out
      have hk1 : Wx.heap[D]? = some (.deferred (some [])) := by
        rw [b1x.block D (by have := BWV.out.size; omega), BWV.out.block D (by omega), B9b.out.block D hDV]; exact HK.out
      have hne : D ≠ D2 := by have := BW3.out.size; omega
      have hk1' : (Wx.putObj D2 (.deferred none)).heap[D]? = some (.deferred (some [])) := by rw [World.putObj_heap_other (by omega)]; exact hk1
      have hw1 := B1.out.size
      go_wp2_with fail
      refine ⟨by simp, .inl ⟨_, _, rfl, run_takeDeferred hk2, by simp, .inl ⟨_, _, rfl, run_takeDeferred hk1', ?_⟩⟩⟩
      exact ⟨_, results_tmp rfl _ _ _, rfl, below_put (below_put b0x.out (by omega) hk2) (by omega) hk1'⟩
  refine range_R (m := 5) (gf := 36) (lb := #[.pointer (some ⟨Bs2, 0, none⟩), .pointer (some ⟨Bf2, 0, none⟩)]) (by rw [hTM]; rfl) (enters_of Try.func36 (by kernel_rfl) rfl)
    SQ.out KpT.trans (KpT.put hw2) (Below.refl _ _) (fun _ => rfl)
    (fun pre V => BkI w1 W2 nk fb k f pre.length V ∧ pre.length ≤ k)
    (fun c pre V => c = .exit 0 ∧ BkI w1 W2 nk fb k f k V ∧ pre.length = k + 1)
    (fun pre X Y row h hg hr => ⟨BkI.own hfb hr8 hw2 pre.length X Y row h.1 hg hr, h.2⟩)
    (fun c => fun pre X Y row h hg hr => ⟨h.1, BkI.own hfb hr8 hw2 k X Y row h.2.1 hg hr, h.2.2⟩)
    ⟨⟨AN2.out, AK2.out, LF.out, BA.out, Nat.le_refl _⟩, Nat.zero_le _⟩
    (fun pre x a' V => a' = { tmps := (#[37, 38].zip (blkEncs x)).foldl (fun t (p, v) => t.setIfInBounds p v) TM, defers := [] })
    (fun pre x a' _ X Y row hs hg hr => hs)
    ?assign ?body ?done ?stop
  case assign =>
    rintro l2 pre x V K hi hR hK
    exact wpIn_skip (hK _ _ (KeepsFrom.refl _ _) (KpT.refl _ _ _) hi rfl)
  case body =>
    rintro l2 pre x a' V hl ⟨r, hr⟩ ⟨hi, hpk⟩ rfl
    subst hTM
    have HI := Lib.hid hi
    have c0 : V.cell? ⟨nk + 1, 0, none⟩ = some (.int .i64 (pre.length : Int)) := Arr.cell hi.a 0
    have f0 : V.frozen? ⟨nk + 1, 0, none⟩ = false := Arr.frozen hi.a 0
    have c1 : V.cell? ⟨nk, 0, none⟩ = some (.int .i64 (k : Int)) := Arr.cell hi.k 0
    have e1 : (pre ++ [x]).length = pre.length + 1 := by rw [List.length_append]; rfl
    clear hi hr
    by_cases hpe : pre.length = k
    · have eq : (((pre.length : Nat) : Int) == (k : Int)) = true := by rw [hpe]; exact beq_self_eq_true _
      have eq2 : decide (((pre.length : Nat) : Int) = (k : Int)) = true := by rw [hpe]; exact decide_eq_true rfl
      unfold blkEncs
      gi_wp2
      exact ⟨KeepsFrom.refl _ _, rfl, by rw [← hpe]; rw [hpe]; have h := HI.out; rw [hpe] at h; exact h, by rw [e1, hpe]⟩
    · have eq : (((pre.length : Nat) : Int) == (k : Int)) = false := by rw [beq_eq_false_iff_ne]; omega
      have eq2 : decide (((pre.length : Nat) : Int) = (k : Int)) = false := by rw [decide_eq_false_iff_not]; omega
      have ew : IntKind.i64.wrap (((pre.length : Nat) : Int) + 1) = ((pre.length + 1 : Nat) : Int) := by rw [IntWalk.i64_in _ (by omega)]; omega
      unfold blkEncs
      gi_wp2
      refine ⟨(KeepsOthers.setCell _ _ _).from _, kpT_set HI.out.a (by decide) (by omega) _, ⟨?_, Arr.far HI.out.k (by omega) _, Arr.far HI.out.fl (by omega) _, HI.out.b.setCell (p := ⟨nk + 1, 0, none⟩) (by show w1.heap.size ≤ nk + 1; omega) _, by rw [setCell_size]; exact HI.out.s⟩, by rw [e1]; omega⟩
      rw [e1, show (((pre.length + 1 : Nat)) : Int) = (pre.length : Int) + 1 by omega]
      exact Arr.set HI.out.a 0 _
  case done =>
    rintro D xs V hD hS ⟨hi, hpk⟩ hK
    have hxl : xs.length = l.length := by
      have h : xs.map PtV.pt = chainP s.dk f := hS
      rw [CHP.out] at h
      have := congrArg List.length h
      simpa using this
    exact TAIL D xs.length V hD (by omega) hi hK
  case stop =>
    rintro D c pre V hD ⟨post, hSp⟩ ⟨rfl, hi, hpl⟩ hK
    have hxl : pre.length ≤ l.length := by
      rw [CHP.out] at hSp
      have := congrArg List.length hSp
      simp at this
      omega
    refine wpIn_wide.2 ?_
    have T9 := Lib.hid (TAIL D k V hD (by omega) hi hK)
    subst hTM hQM
    clear TAIL
    refine wp_exit ?_
    exact T9.out
end Go.Proofs.Ytilmicekpclmbaa
