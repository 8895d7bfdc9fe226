/-
  The law's own 'found' of a join; equal; Same at ints.
-/
import Derived.Test.YtjjkddahfmkhoaaGl
namespace Go.Proofs.Ytjjkddahfmkhoaa
set_option linter.unusedVariables false
set_option linter.unusedSimpArgs false
set_option maxRecDepth 100000
open Go.RowKit Go.Shelf
attribute [local go_sem] Oper.semAt_some

theorem equal_any (a b : Int) (w : World) : Calls Try.prog 13 #[.int .i64 a, .int .i64 b] w fun e w' => e = .returned (.bool (a == b)) ∧ w' = w := by
  obtain ⟨r, hr⟩ : ∃ r, (a == b) = r := ⟨_, rfl⟩
  rw [hr]
  go_enter Try.func13, Try.ntmps13
  go_wp2
  go_ret
  exact ⟨rfl, rfl⟩
theorem isame_f (A B : Option Addr) (n c c' : Nat) (xs : List Int) (w : World) (hn : n ≤ 1000000) (hl : xs.length = n) (hA : IFw w A xs) (hB : IFw w B xs) :
    Calls Try.prog 14 #[.slice A n c, .slice B n c'] w fun e w' => e = .returned (.bool true) ∧ Below w.heap.size w w' := by
  have HL := Lib.hid hl
  clear hl
  have HA := Lib.hid hA; have HB := Lib.hid hB
  clear hA hB
  go_enter Try.func14, Try.ntmps14
  go_wp2
  go_loopw [5] (fun i wr => ∃ k : Nat, k ≤ n ∧ i = .int .i64 k ∧ Below w.heap.size w wr) (fun i _ => n - (intOf i).toNat)
  case atStart => exact ⟨0, Nat.zero_le _, rfl, Below.refl _ _⟩
  case round =>
    obtain ⟨k, hk, rfl, hb⟩ := hrel
    by_cases hlt : k < n
    · obtain ⟨v, hv⟩ : ∃ v, xs[k]? = some v := ⟨_, List.getElem?_eq_getElem (by rw [HL.out]; exact hlt)⟩
      obtain ⟨b1, o1, rfl, hl1, z1⟩ := HA.out.below hb k v hv
      obtain ⟨b2, o2, rfl, hl2, z2⟩ := HB.out.below hb k v hv
      have HB2 := Lib.hid hb
      clear hv hb
      go_wp2
      go_quiet (fail)
      go_wp2
      go_roundw
      case rel => exact ⟨k + 1, by omega, by go_num, bstep HB2.out ⟨rfl, rfl, rfl, Nat.le_refl _, fun _ _ => rfl⟩⟩
      case measure => simp [intOf]; omega
    · go_wp2
      go_ret
      exact ⟨rfl, hb⟩
/-- A row that a loop's body appends to. -/
structure OutI (n₀ ob : Nat) (L : List Int) (A : Nat → Prop) (V : World) (Ar : Option Addr) (c : Nat) : Prop where
  v : Arr V ob 24 [.slice Ar L.length c]
  r : RowA V 3 Ar c (fv L)
  hA : ∀ k, A k ↔ k = ob ∨ Of Ar k
  new : ∀ a, Ar = some a → n₀ ≤ a.block ∧ a.block ≠ ob
theorem OutI.keep {n₀ ob : Nat} {L : List Int} {A : Nat → Prop} {V V' : World} {Ar : Option Addr} {c : Nat} {F : Nat → Prop} (h : OutI n₀ ob L A V Ar c) (k : Keep F V V') (hF : ∀ q, F q → ¬ A q) : OutI n₀ ob L A V' Ar c :=
  ⟨h.v.keepF k (fun e => hF _ e ((h.hA _).2 (Or.inl rfl))), h.r.keepF k (fun a ha e => hF _ e ((h.hA _).2 (Or.inr ⟨a, ha, rfl⟩))), h.hA, h.new⟩
theorem OutI.app {n₀ ob : Nat} {L : List Int} {A : Nat → Prop} {V V2 : World} {Ar A2 : Option Addr} {c c2 n : Nat} {x : Int} (h : OutI n₀ ob L A V Ar c) (hn : L.length = n) (hV : n₀ ≤ V.heap.size) (hlo : Low A V)
    (r2 : RowA V2 3 A2 c2 (fv L ++ [.int .i64 x])) (k2 : Keep (Of Ar) (V.alloc (.cells #[.int .i64 x] 3)) V2) (w2 : A2 = Ar ∨ ∃ g, A2 = some ⟨g, 0, none⟩ ∧ (V.alloc (.cells #[.int .i64 x] 3)).heap.size ≤ g) :
    ∃ A3, Left A (fun _ => False) V (V2.setCell ⟨ob, 0, none⟩ (.slice A2 (n + 1) c2)) A3 ∧ OutI n₀ ob (L ++ [x]) A3 (V2.setCell ⟨ob, 0, none⟩ (.slice A2 (n + 1) c2)) A2 c2 := by
  have kk : Keep (fun k => Of Ar k ∨ k = ob) V (V2.setCell ⟨ob, 0, none⟩ (.slice A2 (n + 1) c2)) := (((Keep.alloc V _).then k2).then (Keep.set V2 ob 0 _)).more (fun q e => e.elim (fun e => e.elim False.elim Or.inl) Or.inr)
  have oV : ob < V.heap.size := Arr.lt h.v
  have new : ∀ a, A2 = some a → Of Ar a.block ∨ V.heap.size ≤ a.block := fun a ha => by
    rcases w2 with e | ⟨g, e, hg⟩
    · exact Or.inl ⟨a, by rw [← e]; exact ha, rfl⟩
    · rw [e] at ha; injection ha with ha; subst ha; simp at hg; exact Or.inr (by show V.heap.size ≤ g; omega)
  have nout : ∀ a, A2 = some a → n₀ ≤ a.block ∧ a.block ≠ ob := fun a ha => by
    rcases new a ha with ⟨b, hb, e⟩ | e
    · rw [e]; exact h.new b hb
    · exact ⟨by omega, by omega⟩
  refine ⟨fun k => k = ob ∨ Of A2 k, ⟨kk.more (fun q e => Or.inl ((h.hA q).2 (e.elim Or.inr Or.inl))), fun q hq => ?_, fun q hq => ?_⟩, ?_, ?_, fun k => Iff.rfl, nout⟩
  · rcases hq with rfl | ⟨a, ha, rfl⟩
    · exact Nat.lt_of_lt_of_le oV kk.size
    · rw [fset_size]; exact r2.lt a ha
  · rcases hq with e | ⟨a, ha, rfl⟩
    · exact Or.inl ((h.hA q).2 (Or.inl e))
    · rcases new a ha with e | e
      · exact Or.inl ((h.hA _).2 (Or.inr e))
      · exact Or.inr (Or.inr e)
  · have g2 : Arr V2 ob 24 [.slice Ar L.length c] := h.v.keepF ((Keep.alloc V _).then k2) (fun e => by
      rcases e with e | ⟨a, ha, e⟩
      · exact e
      · exact (h.new a ha).2 e.symm)
    have := g2.set 0 (.slice A2 (n + 1) c2)
    rw [List.length_append, hn]
    exact this
  · rw [fv_app]
    exact r2.other (fun a ha e => (nout a ha).2 e) _
/-- What found tells. -/
def jflag (bs pre : List Int) (x : Int) : Int := if (jfind bs pre x).isSome then 1 else 0
def jout2 (bs xs : List Int) : List Int × List Int := xs.foldl (fun st x => (st.1 ++ [x], st.2 ++ [x, jflag bs st.1 x])) ([], [])
theorem jout2_snoc (bs xs : List Int) (x : Int) : jout2 bs (xs ++ [x]) = ((jout2 bs xs).1 ++ [x], (jout2 bs xs).2 ++ [x, jflag bs (jout2 bs xs).1 x]) := by unfold jout2; rw [List.foldl_append]; rfl
theorem jout2_fst (bs xs : List Int) : (jout2 bs xs).1 = xs := snoc_ind (p := fun xs => (jout2 bs xs).1 = xs) rfl (fun xs x ih => by show (jout2 bs (xs ++ [x])).1 = _; rw [jout2_snoc]; show (jout2 bs xs).1 ++ [x] = _; rw [ih]) xs
def jout (bs xs : List Int) : List Int := (jout2 bs xs).2
theorem jout_snoc (bs xs : List Int) (x : Int) : jout bs (xs ++ [x]) = jout bs xs ++ [x] ++ [jflag bs xs x] := by
  unfold jout
  rw [jout2_snoc, jout2_fst, List.append_assoc]
  rfl
theorem jout_len (bs xs : List Int) : (jout bs xs).length = 2 * xs.length := snoc_ind (p := fun xs => (jout bs xs).length = 2 * xs.length) rfl (fun xs x ih => by
  show (jout bs (xs ++ [x])).length = _
  rw [jout_snoc, List.length_append, List.length_append, List.length_append, ih]; simp; omega) xs
set_option maxHeartbeats 8000000 in
theorem found_any (As Bs : Option Addr) (ns nb cs cb : Nat) (xs bs : List Int) (w : World) (hs : IFw w As xs) (hb : IFw w Bs bs) (ls : xs.length = ns) (lb : bs.length = nb) (n1 : ns ≤ 1000) (n2 : nb ≤ 1000) (z1 : As = none → cs = 0) (z2 : Bs = none → cb = 0) :
    Calls Try.prog 15 #[.slice As ns cs, .slice Bs nb cb] w fun e w' => ∃ Ao c, e = .returned (.slice Ao (2 * ns) c) ∧ RowA w' 3 Ao c (fv (jout bs xs)) ∧ (∀ a, Ao = some a → w.heap.size ≤ a.block) ∧ Below w.heap.size w w' := by
  refine (callsIn_wide (n := 5)).1 ?_
  refine callsIn_of_wp_marks Try.func15 rfl trivial ?_ rfl
  simp only [Try.ntmps15, List.size_toArray, List.length_cons, List.length_nil, Nat.reduceAdd, Nat.reduceSub, Array.replicate_succ, Array.replicate_zero, List.push_toArray, List.append_toArray, List.nil_append, List.cons_append]
  obtain ⟨w1, hw1⟩ : ∃ w1, w1 = w.alloc (.cells #[.slice none 0 0] 24) := ⟨_, rfl⟩
  obtain ⟨ob, hob⟩ : ∃ ob, ob = w.heap.size := ⟨_, rfl⟩
  have B1 := Lib.hid (show Below w.heap.size w w1 by rw [hw1]; exact balloc w _)
  have V1 := Lib.hid (show Arr w1 ob 24 [.slice none 0 0] by rw [hw1, hob]; exact Arr.new w _ [_])
  have HOB := Lib.hid hob
  have HBs := Lib.hid hb; have LS := Lib.hid ls; have LB := Lib.hid lb
  have FR := Lib.hid (from_any As ns cs xs w1 (hs.below B1.out) ls (by omega) z1)
  have en : ∀ (fn : Fn) (p q : Array Value) W, (binOp .eql 58 (.func fn p q) .nilFunc).run Try.prog W = .ok (.bool false) W := fun fn p q => by
    have h : ∃ a b c, Try.prog.underlying 58 = some (.func a b c) := ⟨_, _, _, Try.underlying58⟩
    obtain ⟨a, b, c, h⟩ := h
    exact ffn_nil _ a b c h fn p q
  clear hs hb ls lb z1
  gi_upto_region 2 with fail
  rw [← hw1, ← hob]
  clear hw1 hob
  gi_wp2_with fail
  refine ⟨trivial, (callsIn_wide.2 FR.out).mono ?_⟩
  rintro e w2 ⟨fb, Af, cf, rfl, ⟨a2, r2⟩, ⟨f1, f2⟩, b2⟩
  have CU := Lib.hid (cursor_new Bs nb cb bs w2 ((HBs.out.below B1.out).below b2) LB.out (by omega) z2)
  have A2' := Lib.hid a2; have R2 := Lib.hid r2; have F1 := Lib.hid f1; have F2 := Lib.hid f2; have B2 := Lib.hid b2
  clear FR a2 r2 f1 f2 b2
  gi_wp2_with fail
  refine ⟨trivial, (callsIn_wide.2 CU.out).mono ?_⟩
  rintro e w3 ⟨rb, Ab, rfl, cu, ⟨g1, g2⟩, b3⟩
  have JN := Lib.hid (join_new (.func 46) #[] #[.pointer (some ⟨fb, 0, none⟩)] (.func 56) #[] #[.pointer (some ⟨rb, 0, none⟩)] (.func 32) #[] #[] w3)
  have CC := Lib.hid cu; have G1 := Lib.hid g1; have G2 := Lib.hid g2; have B3 := Lib.hid b3
  clear CU cu g1 g2 b3
  gi_wp2_with fail
  refine ⟨trivial, (callsIn_wide.2 JN.out).mono ?_⟩
  rintro e w4 ⟨rfl, ⟨a4, a5, a6⟩, b4, s4⟩
  have hs1 := B1.out.size; have hs2 := B2.out.size; have hs3 := B3.out.size
  have crb := CC.out.lt
  have fbl := Arr.lt A2'.out
  have obl := Arr.lt V1.out
  have KF : Hid (Keep (fun k => ¬ FromB fb Af k) w2 w4) := Lib.hid (((Keep.of_below (F := fun _ => False) B3.out).then (Keep.of_below (F := fun _ => False) b4)).more (fun q e => e.elim False.elim False.elim))
  have lowF : Hid (∀ k, FromB fb Af k → w1.heap.size ≤ k ∧ k < w2.heap.size) := Lib.hid (fun k h => by
    rcases h with rfl | ⟨a, ha, rfl⟩
    · exact ⟨F1.out, fbl⟩
    · exact ⟨F2.out a ha, R2.out.lt a ha⟩)
  have SQ := Lib.hid (joinseq bs (from_seq fb Af ns cf xs w2 A2'.out R2.out LS.out (by omega)) w4 KF.out (enters_of Try.func46 (by kernel_rfl) rfl) (Rp := NextI xs) (fun _ _ _ h => h) (fun _ _ _ _ _ h _ _ => h) (Of Ab) rb (CC.out.keep (Keep.of_below (F := fun _ => False) b4) (fun h => h) (fun _ _ h => h) (fun q hq => (G2.out q hq).2.2)) (fun q hq => Nat.lt_of_lt_of_le (G2.out q hq).2.2 b4.size) (fun h => (G2.out rb h).2.1 rfl) w3.heap.size (w3.heap.size + 1) (w3.heap.size + 2) a4 a5 a6
    (fun k hk => by have h1 := lowF.out k hk; exact ⟨⟨by omega, by omega, by omega⟩, by have := G1.out; omega, fun h => by have := (G2.out k h).1; omega⟩)
    ⟨⟨by omega, by omega, by omega⟩, fun h => by have := (G2.out _ h).2.2; omega, fun h => by have := (G2.out _ h).2.2; omega, fun h => by have := (G2.out _ h).2.2; omega⟩)
  have B4 : Hid (Below w.heap.size w w4) := Lib.hid (((B1.out.trans (B2.out.mono (by omega))).trans (B3.out.mono (by omega))).trans (b4.mono (by omega)))
  have V4 : Hid (Arr w4 ob 24 [.slice none 0 0]) := Lib.hid (((V1.out.below B2.out).below B3.out).below b4)
  have hs4 := b4.size
  have ITS : Hid (∀ k, (FromB fb Af k ∨ (k = w3.heap.size ∨ k = w3.heap.size + 1 ∨ k = w3.heap.size + 2) ∨ k = rb ∨ Of Ab k) → w1.heap.size ≤ k ∧ k < w4.heap.size) := Lib.hid (fun k h => by
    rcases h with h | h | h | h
    · have := lowF.out k h; omega
    · omega
    · have := G1.out; omega
    · have := G2.out k h; omega)
  clear JN a4 a5 a6 b4 KF lowF
  gi_wp2_with fail
  refine range_F (n := 5) (m := 5) (gf := 58) rfl (enters_of Try.func58 (by kernel_rfl) rfl) SQ.out (Keep.refl _ _) (fun _ => rfl)
    (fun pre A V => ∃ Ao c, OutI w.heap.size ob (jout bs (pre.map Jp.a)) A V Ao c) (fun _ _ _ _ => False) (fun k => k = ob) (fun s A V V' h k => by obtain ⟨Ao, c, h⟩ := h; exact ⟨Ao, c, h.keep k (fun q hq => hq)⟩) (fun _ _ _ _ _ h _ => h) (fun k hk e => by have := (ITS.out k hk).1; omega) (fun k e => by subst e; exact Arr.lt V4.out)
    ⟨none, 0, V4.out, RowA.nil _ _, fun k => ⟨Or.inl, fun e => by rcases e with e | ⟨a, ha, _⟩; exact e; cases ha⟩, fun a ha => (by cases ha)⟩
    (fun pre x a' => a' = { tmps := #[.slice As ns cs, .slice Bs nb cb, undef, undef, .slice none 0 0, .pointer (some ⟨ob, 0, none⟩), .func (.func 58) #[] #[.pointer (some ⟨w3.heap.size, 0, none⟩), .pointer (some ⟨w3.heap.size + 1, 0, none⟩), .pointer (some ⟨w3.heap.size + 2, 0, none⟩)], .int .i64 x.a, .pointer x.p, .slice As ns cs, .func (.func 46) #[] #[.pointer (some ⟨fb, 0, none⟩)], .slice Bs nb cb, .func (.func 56) #[] #[.pointer (some ⟨rb, 0, none⟩)], .func (.func 58) #[] #[.pointer (some ⟨w3.heap.size, 0, none⟩), .pointer (some ⟨w3.heap.size + 1, 0, none⟩), .pointer (some ⟨w3.heap.size + 2, 0, none⟩)], .func (.func 58) #[] #[.pointer (some ⟨w3.heap.size, 0, none⟩), .pointer (some ⟨w3.heap.size + 1, 0, none⟩), .pointer (some ⟨w3.heap.size + 2, 0, none⟩)], .bool false, .func (.func 58) #[] #[.pointer (some ⟨w3.heap.size, 0, none⟩), .pointer (some ⟨w3.heap.size + 1, 0, none⟩), .pointer (some ⟨w3.heap.size + 2, 0, none⟩)], .int .i64 x.a, .pointer x.p, undef, undef, undef, undef, undef, undef, undef, undef, undef, undef, undef, undef, undef], defers := [] })
    ?assign ?body ?done ?stop
  case assign =>
    intro l pre x V K hK
    have HK := Lib.hid hK
    clear hK
    unfold encJ
    gi_wp2
    exact HK.out _ rfl
  case body =>
    rintro l pre x a' A V hsz ⟨Ao, c, o⟩ hlow hR hfl hfx rfl
    obtain ⟨⟨post, hpost⟩, hjp⟩ := hR
    have hlen : pre.length < ns := by
      have h := congrArg List.length hpost
      rw [LS.out] at h
      simp at h
      omega
    obtain ⟨L, hL⟩ : ∃ L, jout bs (pre.map Jp.a) = L := ⟨_, rfl⟩
    rw [hL] at o
    obtain ⟨n, hn⟩ : ∃ n, L.length = n := ⟨_, rfl⟩
    have hn2 : n = 2 * pre.length := by rw [← hn, ← hL, jout_len, List.length_map]
    have hn3 : n ≤ 2000 := by omega
    have OT := Lib.hid o; have HLO := Lib.hid hlow; have HN := Lib.hid hn; have HL := Lib.hid hL; have HJ := Lib.hid hjp
    have sub3 : ∀ q, (fun _ : Nat => False) q → Of x.p q := fun _ h => h.elim
    have hw0 : w.heap.size ≤ V.heap.size := by have := B4.out.size; omega
    obtain ⟨a, p⟩ := x
    clear o hlow hn hL hjp hpost hfl hfx hn2
    have cz : V.cell? ⟨ob, 0, none⟩ = some (.slice Ao n c) := by have h := OT.out.v.cell 0; rw [HN.out] at h; exact h
    obtain ⟨V1, hV1⟩ : ∃ V1, V1 = V.alloc (.cells #[.int .i64 a] 3) := ⟨_, rfl⟩
    have R1 : Hid (RowA V1 3 Ao c (fv L)) := Lib.hid (by rw [hV1]; exact OT.out.r.keepF (Keep.alloc V _) (fun a ha h => h))
    have SC : Hid (Src V1 (some ⟨V.heap.size, 0, none⟩) 1 [.int .i64 a]) := Lib.hid (by rw [hV1]; exact Src.one V 3 (.int .i64 a) (0, 0) 1)
    have GG : Hid (Arr V1 ob 24 [.slice Ao n c]) := Lib.hid (by rw [hV1]; have h := OT.out.v; rw [HN.out] at h; exact h.keepF (Keep.alloc V _) (fun h => h))
    have HVV := Lib.hid hV1
    clear hV1
    gi_wp2_with (gi_at_builtin; rw [← HVV.out]; refine row_app_in fcells_I rfl _ _ rfl Ao n c (fv L) rfl R1.out (by rw [fv_len]; exact HN.out) _ 1 1 [.int .i64 a] rfl rfl SC.out (by intro u hu; obtain rfl : u = .int .i64 a := (by simpa using hu); rfl) (by omega) ?_)
    intro A2r c2 V2 r2 k2 w2'
    have g2 : Arr V2 ob 24 [.slice Ao n c] := GG.out.keepF k2 (fun h => by obtain ⟨a, ha, e⟩ := h; exact (OT.out.new a ha).2 e.symm)
    have zz := g2.frozen 0
    have cz2 := g2.cell 0
    have R2x := Lib.hid r2; have K2 := Lib.hid k2; have W2 := Lib.hid w2'
    clear r2 k2 w2' g2 cz
    obtain ⟨V5, hV5⟩ : ∃ V5, V5 = V2.setCell ⟨ob, 0, none⟩ (.slice A2r (n + 1) c2) := ⟨_, rfl⟩
    obtain ⟨A3, l3, o3⟩ := OutI.app OT.out HN.out hw0 HLO.out R2x.out (by rw [← HVV.out]; exact K2.out) (by rw [← HVV.out]; exact W2.out)
    rw [← hV5] at l3 o3
    have hs5 : V5.heap.size = V2.heap.size := by rw [hV5, fset_size]
    have HV5 := Lib.hid hV5; have L3 := Lib.hid l3; have O3 := Lib.hid o3
    have HN3 : Hid ((L ++ [a]).length = n + 1) := Lib.hid (by rw [List.length_append, HN.out]; rfl)
    have hw5 : w.heap.size ≤ V5.heap.size := by have := L3.out.keep.size; omega
    clear hV5 l3 o3
    cases hj : jfind bs (pre.map Jp.a) a with
    | none =>
      have hp : p = none := by have h := HJ.out; unfold JpAt at h; rw [show jfind bs (pre.map Jp.a) (Jp.a ⟨a, p⟩) = none from hj] at h; exact h
      subst hp
      have EJ : Hid (jout bs ((pre ++ [(⟨a, none⟩ : Jp)]).map Jp.a) = L ++ [a] ++ [0]) := Lib.hid (by rw [List.map_append]; show jout bs (_ ++ [a]) = _; rw [jout_snoc, HL.out]; unfold jflag; rw [hj]; rfl)
      clear hj
      obtain ⟨V6, hV6⟩ : ∃ V6, V6 = V5.alloc (.cells #[.int .i64 0] 3) := ⟨_, rfl⟩
      have R6 : Hid (RowA V6 3 A2r c2 (fv (L ++ [a]))) := Lib.hid (by rw [hV6]; exact O3.out.r.keepF (Keep.alloc V5 _) (fun a ha h => h))
      have SC6 : Hid (Src V6 (some ⟨V2.heap.size, 0, none⟩) 1 [.int .i64 0]) := Lib.hid (by rw [hV6, ← hs5]; exact Src.one V5 3 (.int .i64 0) (0, 0) 1)
      have G6 : Hid (Arr V6 ob 24 [.slice A2r (n + 1) c2]) := Lib.hid (by rw [hV6]; have h := O3.out.v; rw [HN3.out] at h; exact h.keepF (Keep.alloc V5 _) (fun h => h))
      have HVV4 := Lib.hid hV6
      clear hV6
      gi_wp2_with (gi_at_builtin; rw [← HV5.out, ← HVV4.out]; refine row_app_in fcells_I rfl _ _ rfl A2r (n + 1) c2 (fv (L ++ [a])) rfl R6.out (by rw [fv_len]; exact HN3.out) _ 1 1 [.int .i64 0] rfl rfl SC6.out (by intro u hu; obtain rfl : u = .int .i64 0 := (by simpa using hu); rfl) (by omega) ?_)
      intro A4r c4 V4' r4 k4 w4'
      have g4 : Arr V4' ob 24 [.slice A2r (n + 1) c2] := G6.out.keepF k4 (fun h => by obtain ⟨a, ha, e⟩ := h; exact (O3.out.new a ha).2 e.symm)
      have zz4 := g4.frozen 0
      have cz4 := g4.cell 0
      have R4 := Lib.hid r4; have K4 := Lib.hid k4; have W4 := Lib.hid w4'
      clear r4 k4 w4' g4
      gi_wp2
      obtain ⟨A4, l4, o4⟩ := OutI.app O3.out HN3.out hw5 L3.out.low R4.out (by rw [← HVV4.out]; exact K4.out) (by rw [← HVV4.out]; exact W4.out)
      exact ⟨A4, (Left.trans L3.out l4).more sub3, A4r, c4, by rw [EJ.out]; exact o4⟩
    | some b =>
      obtain ⟨q, hp, -⟩ : ∃ q, p = some ⟨q, 0, none⟩ ∧ Arr V q 3 [.int .i64 b] := by have h := HJ.out; unfold JpAt at h; rw [show jfind bs (pre.map Jp.a) (Jp.a ⟨a, p⟩) = some b from hj] at h; exact h
      subst hp
      have EJ : Hid (jout bs ((pre ++ [(⟨a, some ⟨q, 0, none⟩⟩ : Jp)]).map Jp.a) = L ++ [a] ++ [1]) := Lib.hid (by rw [List.map_append]; show jout bs (_ ++ [a]) = _; rw [jout_snoc, HL.out]; unfold jflag; rw [hj]; rfl)
      clear hj
      obtain ⟨V6, hV6⟩ : ∃ V6, V6 = V5.alloc (.cells #[.int .i64 1] 3) := ⟨_, rfl⟩
      have R6 : Hid (RowA V6 3 A2r c2 (fv (L ++ [a]))) := Lib.hid (by rw [hV6]; exact O3.out.r.keepF (Keep.alloc V5 _) (fun a ha h => h))
      have SC6 : Hid (Src V6 (some ⟨V2.heap.size, 0, none⟩) 1 [.int .i64 1]) := Lib.hid (by rw [hV6, ← hs5]; exact Src.one V5 3 (.int .i64 1) (0, 0) 1)
      have G6 : Hid (Arr V6 ob 24 [.slice A2r (n + 1) c2]) := Lib.hid (by rw [hV6]; have h := O3.out.v; rw [HN3.out] at h; exact h.keepF (Keep.alloc V5 _) (fun h => h))
      have HVV4 := Lib.hid hV6
      clear hV6
      gi_wp2_with (gi_at_builtin; rw [← HV5.out, ← HVV4.out]; refine row_app_in fcells_I rfl _ _ rfl A2r (n + 1) c2 (fv (L ++ [a])) rfl R6.out (by rw [fv_len]; exact HN3.out) _ 1 1 [.int .i64 1] rfl rfl SC6.out (by intro u hu; obtain rfl : u = .int .i64 1 := (by simpa using hu); rfl) (by omega) ?_)
      intro A4r c4 V4' r4 k4 w4'
      have g4 : Arr V4' ob 24 [.slice A2r (n + 1) c2] := G6.out.keepF k4 (fun h => by obtain ⟨a, ha, e⟩ := h; exact (O3.out.new a ha).2 e.symm)
      have zz4 := g4.frozen 0
      have cz4 := g4.cell 0
      have R4 := Lib.hid r4; have K4 := Lib.hid k4; have W4 := Lib.hid w4'
      clear r4 k4 w4' g4
      gi_wp2
      obtain ⟨A4, l4, o4⟩ := OutI.app O3.out HN3.out hw5 L3.out.low R4.out (by rw [← HVV4.out]; exact K4.out) (by rw [← HVV4.out]; exact W4.out)
      exact ⟨A4, (Left.trans L3.out l4).more sub3, A4r, c4, by rw [EJ.out]; exact o4⟩
  case done =>
    rintro D ys A' V hD hS ⟨Ao, c, o⟩ hlow hnt hkp hK
    have e0 : ys.map Jp.a = xs := hS
    rw [e0] at o
    have hl : (jout bs xs).length = 2 * ns := by rw [jout_len, LS.out]
    have c0 : V.cell? ⟨ob, 0, none⟩ = some (.slice Ao (2 * ns) c) := by have h := o.v.cell 0; rw [hl] at h; exact h
    have kD := Keep.putObj V D (.deferred none)
    have hDV : D < V.heap.size := (Array.getElem?_eq_some_iff.1 hK).1
    have hs := B4.out.size
    have FIN : Hid (RowA (V.putObj D (.deferred none)) 3 Ao c (fv (jout bs xs)) ∧ (∀ a, Ao = some a → w.heap.size ≤ a.block) ∧ Below w.heap.size w (V.putObj D (.deferred none))) := Lib.hid (by
      refine ⟨o.r.keepF kD (fun a ha e => (hnt _ ((o.hA _).2 (Or.inr ⟨a, ha, rfl⟩))).2 e), fun a ha => (o.new a ha).1, hkp.os.trans B4.out.os, hkp.tape.trans B4.out.tape, hkp.output.trans B4.out.output, by simp; have := hkp.size; omega, fun q hq => ?_⟩
      rw [World.putObj_heap_other (by omega), hkp.block q (by omega) (fun e => by
        rcases e with e | e | e
        · have := HOB.out; omega
        · exact e.elim
        · have := G1.out; omega)]
      exact B4.out.block q hq)
    have HK := Lib.hid hK
    clear hS o hlow hnt hkp hK kD
    gi_wp2
    refine ⟨by simp, .inl ⟨_, _, rfl, run_takeDeferred HK.out, ?_⟩⟩
    exact ⟨_, results_tmp rfl _ _ _, Ao, c, rfl, FIN.out⟩
  case stop =>
    rintro D c pre A' V hD hSp hF
    exact hF.elim
end Go.Proofs.Ytjjkddahfmkhoaa
