/-
  Package flow: Groups over any iterator of ints.
-/
import Derived.Sort.CutIn
import Derived.Sort.QuietIn
import Derived.Deep.Draws
import Derived.Test.YtjjkddahfmkhoaaGh
namespace Go.Proofs.Ytjjkddahfmkhoaa
set_option linter.unusedVariables false
set_option linter.unusedSimpArgs false
set_option maxRecDepth 100000
open Go.RowKit Go.Shelf
attribute [local go_sem] Oper.semAt_some

theorem fbelowN (w : World) (n : Nat) : Below w.heap.size w (w.drewN n) := ⟨rfl, rfl, rfl, Nat.le_refl _, fun _ _ => rfl⟩
theorem groups_new (fn : Fn) (p q : Array Value) (fn' : Fn) (p' q' : Array Value) (w : World) : Calls Try.prog 11 #[.func fn p q, .func fn' p' q'] w fun e w' => e = .returned (.func (.func 43) #[] #[.pointer (some ⟨w.heap.size, 0, none⟩), .pointer (some ⟨w.heap.size + 1, 0, none⟩)]) ∧ (Arr w' w.heap.size 29 [.func fn p q] ∧ Arr w' (w.heap.size + 1) 31 [.func fn' p' q']) ∧ Below w.heap.size w w' := by
  have en : ∀ W, (binOp .eql 31 (.func fn' p' q') .nilFunc).run Try.prog W = .ok (.bool false) W := by
    have h : ∃ a b c, Try.prog.underlying 31 = some (.func a b c) := ⟨_, _, _, Try.underlying31⟩
    obtain ⟨a, b, c, h⟩ := h
    exact ffn_nil _ a b c h fn' p' q'
  have hmf := mk_fn
  go_enter Try.func11, Try.ntmps11
  go_wp2_with fail
  go_ret
  refine ⟨rfl, ⟨(Arr.new w _ [_]).below (balloc _ _), ?_⟩, ((Below.refl _ _).alloc (Nat.le_refl _) _).alloc (by simp) _⟩
  have := Arr.new (w.alloc (.cells #[.func fn p q] 29)) 31 [.func fn' p' q']
  rw [World.size_alloc] at this
  exact this
def GrpR (sm : Int → Int → Bool) (Rp : List Int → Int → World → Prop) (S : List Int → World → Prop) (pre : List Grp) (y : Grp) (W : World) : Prop :=
  (∃ prex, pre.map Grp.l = (gst sm prex).1 ∧ y.l = (gst sm prex).2 ∧ y.l ≠ [] ∧ ((∃ x, Rp prex x W) ∨ S prex W)) ∧ Grp.At W y
def GrpS (sm : Int → Int → Bool) (S : List Int → World → Prop) (ys : List Grp) (W : World) : Prop := ∃ xs, ys.map Grp.l = groups sm xs ∧ S xs W
def GrpP (sm : Int → Int → Bool) (S Sp : List Int → World → Prop) (ys : List Grp) (W : World) : Prop := (∃ prex x, ys.map Grp.l = (gst sm prex).1 ++ [(gst sm prex).2] ∧ Sp (prex ++ [x]) W) ∨ (∃ xs, ys.map Grp.l = groups sm xs ∧ S xs W)
/-- In the midst of the walk. -/
def MidG (sm : Int → Int → Bool) (l yb gb : Nat) (It2 : Nat → Prop) (w : World) (A : Nat → Prop) (W : World) (J : List Grp → (Nat → Prop) → World → Prop) : List Int → (Nat → Prop) → World → Prop := fun prex A2 V =>
  ∃ A' ys Ar c, GI l yb gb It2 w A W J ys (gst sm prex).2 A2 V A' Ar c ∧ ys.map Grp.l = (gst sm prex).1
def MidX (sm : Int → Int → Bool) (yb gb : Nat) (It2 : Nat → Prop) (w : World) (A : Nat → Prop) (W : World) (Jx : List Grp → (Nat → Prop) → World → Prop) : Code → List Int → (Nat → Prop) → World → Prop := fun c prex A2 V =>
  c = .ret ∧ ∃ A' ys, ((∀ k, A2 k ↔ A' k ∨ k = yb ∨ k = gb ∨ It2 k) ∧ ∀ k, A' k → (k ≠ yb ∧ k ≠ gb ∧ ¬ It2 k) ∧ (A k ∨ W.heap.size ≤ k)) ∧ Jx ys A' V ∧ Keep (fun k => ¬ It2 k) w V ∧ ∃ pre x, prex = pre ++ [x] ∧ ys.map Grp.l = (gst sm pre).1 ++ [(gst sm pre).2]
theorem MidG.stab {sm : Int → Int → Bool} {l yb gb : Nat} {It2 : Nat → Prop} {w : World} {A : Nat → Prop} {W : World} {J : List Grp → (Nat → Prop) → World → Prop} (h : Stab J) (hl : Low It2 w) : Stab (MidG sm l yb gb It2 w A W J) := fun s A2 V V' hs k => by
  obtain ⟨A', ys, Ar, c, g, e⟩ := hs
  exact ⟨A', ys, Ar, c, g.keep h hl k (fun q hq => hq), e⟩
theorem MidX.stab {sm : Int → Int → Bool} {yb gb : Nat} {It2 : Nat → Prop} {w : World} {A : Nat → Prop} {W : World} {Jx : List Grp → (Nat → Prop) → World → Prop} (h : Stab Jx) (hl : Low It2 w) (c : Code) : Stab (MidX sm yb gb It2 w A W Jx c) := fun s A2 V V' hs k => by
  obtain ⟨hc, A', ys, ⟨e, d⟩, j, q, r⟩ := hs
  refine ⟨hc, A', ys, ⟨e, d⟩, h.at j k (fun q hq hA => hq ((e q).2 (Or.inl hA))), ⟨k.os.trans q.os, k.tape.trans q.tape, k.output.trans q.output, Nat.le_trans q.size k.size, fun b h1 h2 => ?_⟩, r⟩
  have h3 : It2 b := Classical.byContradiction h2
  exact (k.block b (by have := q.size; omega) (fun h => h ((e _).2 (Or.inr (Or.inr (Or.inr h3)))))).trans (q.block b h1 h2)
set_option maxHeartbeats 16000000 in
theorem groupseq (sm : Int → Int → Bool) {g : Nat} {lb : Array Value} {fx : Int → Nat → Prop} {R Rp : List Int → Int → World → Prop} {S Sp : List Int → World → Prop} {It Mt : Nat → Prop} {w0 : World} (hseq : SeqF Try.prog g lb (fun x => #[Value.int .i64 x]) fx R S Sp It Mt w0) (w : World) (hw : Keep (fun k => ¬ It k) w0 w) (eg : ∀ args w, (callFunc g args).run Try.prog w = .ok (.enter g args) w)
    (hRp : ∀ pre x W, R pre x W → Rp pre x W) (rpst : ∀ pre x W W' F, Rp pre x W → Keep F W W' → (∀ k, F k → ¬ It k) → Rp pre x W') (hnn : ∀ pre x W, R pre x W → pre.length ≤ 100000)
    {gf : Nat} {lf : Array Value} (ef : ∀ args w, (callFunc gf args).run Try.prog w = .ok (.enter gf args) w) (ItF : Nat → Prop) (hItF : Low ItF w) (hf : ∀ pre x a W, Rp pre x W → a ∈ pre → Keep (fun k => ¬ ItF k) w W → Calls Try.prog gf (#[.int .i64 a, .int .i64 x] ++ lf) W fun e w' => e = .returned (.bool (sm a x)) ∧ ∃ m, w' = W.drewN m)
    (sb fb : Nat) (hs : Arr w sb 29 [.func (.func g) #[] lb]) (hfb : Arr w fb 31 [.func (.func gf) #[] lf]) (d1 : ∀ k, It k → k ≠ sb ∧ k ≠ fb ∧ ¬ ItF k) :
    SeqF Try.prog 43 #[.pointer (some ⟨sb, 0, none⟩), .pointer (some ⟨fb, 0, none⟩)] encG (fun y => Of y.A) (GrpR sm Rp S) (GrpS sm S) (GrpP sm S Sp) (fun k => It k ∨ k = sb ∨ k = fb ∨ ItF k) Mt w := by
  have lowI : Low It w := fun k hk => Nat.lt_of_lt_of_le (hseq.low k hk) hw.size
  refine ⟨fun k hk => ?_, fun k hk => Or.inl (hseq.mt k hk), fun _ _ _ _ _ h k d => ?_, fun _ _ _ _ h k d => ?_, fun _ _ _ _ h k d => ?_, ?_⟩
  · rcases hk with h | rfl | rfl | h
    · exact lowI k h
    · exact Arr.lt hs
    · exact Arr.lt hfb
    · exact hItF k h
  · obtain ⟨⟨prex, h1, h2, h3, h4⟩, h5, h6⟩ := h
    refine ⟨⟨prex, h1, h2, h3, ?_⟩, h5.keepF k (fun a ha e => (d _ e).1 ⟨a, ha, rfl⟩), h6⟩
    rcases h4 with ⟨x, h4⟩ | h4
    · exact Or.inl ⟨x, rpst _ _ _ _ _ h4 k (fun q hq hi => (d q hq).2 (Or.inl hi))⟩
    · exact Or.inr (hseq.sstab _ _ _ _ h4 k (fun q hq hi => (d q hq).2 (Or.inl hi)))
  · obtain ⟨xs, h1, h2⟩ := h
    exact ⟨xs, h1, hseq.sstab _ _ _ _ h2 k (fun q hq hi => d q hq (Or.inl hi))⟩
  · rcases h with ⟨prex, x, h1, h2⟩ | ⟨xs, h1, h2⟩
    · exact Or.inl ⟨prex, x, h1, hseq.pstab _ _ _ _ h2 k (fun q hq hi => d q hq (Or.inl hi))⟩
    · exact Or.inr ⟨xs, h1, hseq.sstab _ _ _ _ h2 k (fun q hq hi => d q hq (Or.inl hi))⟩
  intro l J Jx A W hW hJ hJx hdis hlow hY h0
  have hIt2 : Low (fun k => k = sb ∨ k = fb ∨ ItF k) w := fun k hk => by
    rcases hk with rfl | rfl | h
    · exact Arr.lt hs
    · exact Arr.lt hfb
    · exact hItF k h
  obtain ⟨It2, hI2⟩ : ∃ It2 : Nat → Prop, It2 = fun k => k = sb ∨ k = fb ∨ ItF k := ⟨_, rfl⟩
  have i2s : It2 sb := by rw [hI2]; exact Or.inl rfl
  have i2f : It2 fb := by rw [hI2]; exact Or.inr (Or.inl rfl)
  have i2F : ∀ k, ItF k → It2 k := fun k h => by rw [hI2]; exact Or.inr (Or.inr h)
  have d2 : Hid (∀ k, It k → ¬ It2 k) := Lib.hid (fun k h h2 => by rw [hI2] at h2; rcases h2 with e | e | e; exact (d1 k h).1 e; exact (d1 k h).2.1 e; exact (d1 k h).2.2 e)
  have d3 : Hid (∀ k, It k ∨ It2 k → ¬ A k) := Lib.hid (fun k h => hdis k (by rw [hI2] at h; exact h))
  rw [← hI2] at hIt2
  have hWs : w.heap.size ≤ W.heap.size := hW.size
  have IT2 := Lib.hid hIt2; have I2F := Lib.hid i2F
  have IEQ : Hid (∀ k, (It k ∨ k = sb ∨ k = fb ∨ ItF k) ↔ (It k ∨ It2 k)) := Lib.hid (fun k => by rw [hI2])
  clear hI2 i2F
  have KW2 : Hid (Keep (fun k => ¬ It2 k) w W) := Lib.hid (hW.more (fun q h h2 => h ((IEQ.out q).2 (Or.inr h2))))
  have KW0 : Hid (Keep (fun k => ¬ It k) w0 W) := Lib.hid ((hw.then hW).more (fun q h => h.elim id (fun h h2 => h (Or.inl h2))))
  have HSQ := Lib.hid hseq; have HY := Lib.hid hY; have HJ := Lib.hid hJ; have HJX := Lib.hid hJx; have HLO := Lib.hid hlow; have H0 := Lib.hid h0; have HF := Lib.hid hf; have HRP := Lib.hid hRp; have HRS := Lib.hid rpst; have LI := Lib.hid lowI; have HNN := Lib.hid hnn
  have HS := Lib.hid hs; have HFB := Lib.hid hfb
  have ON := Lib.hid (ornone_I (.func g) #[] lb)
  clear hseq hY hJ hJx hlow h0 hf hRp rpst lowI hs hfb hW hw hdis hIt2 d1 hnn
  refine (callsIn_wide (n := 5)).1 ?_
  refine callsIn_of_wp_marks Try.func43 rfl trivial ?_ rfl
  simp only [Try.ntmps43, List.size_toArray, List.length_cons, List.length_nil, Nat.reduceAdd, Nat.reduceSub, Array.replicate_succ, Array.replicate_zero, List.push_toArray, List.append_toArray, List.nil_append, List.cons_append]
  obtain ⟨W1, hW1⟩ : ∃ W1, W1 = (W.alloc (.cells #[.func (.yield l) #[] #[]] 63)).alloc (.cells #[.slice none 0 0] 24) := ⟨_, rfl⟩
  obtain ⟨yb, hyb⟩ : ∃ yb, yb = W.heap.size := ⟨_, rfl⟩
  obtain ⟨gb, hgb⟩ : ∃ gb, gb = W.heap.size + 1 := ⟨_, rfl⟩
  have Y1 := Lib.hid (show Arr W1 yb 63 [.func (.yield l) #[] #[]] by rw [hW1, hyb]; exact (Arr.new W _ [_]).below (balloc _ _))
  have G1 := Lib.hid (show Arr W1 gb 24 [.slice none 0 0] by
    rw [hW1, hgb]
    have := Arr.new (W.alloc (.cells #[.func (.yield l) #[] #[]] 63)) 24 [.slice none 0 0]
    rw [World.size_alloc] at this
    exact this)
  have B1 := Lib.hid (show Below W.heap.size W W1 by rw [hW1]; exact ((Below.refl _ _).alloc (Nat.le_refl _) _).alloc (by simp) _)
  have sW1 : W1.heap.size = W.heap.size + 2 := by rw [hW1]; simp
  have K1 : Hid (Keep (fun _ => False) W W1) := Lib.hid (Keep.of_below B1.out)
  gi_upto_region 2 with fail
  rw [← hW1, ← hyb]
  try rw [hyb]
  try rw [← hgb]
  try rw [← hyb]
  have HYB := Lib.hid hyb; have HGB := Lib.hid hgb
  have HYG : Hid (yb ≠ gb) := Lib.hid (by omega)
  have HIG : Hid (¬ It2 gb) := Lib.hid (fun h => by have := IT2.out _ h; omega)
  clear hW1 hyb hgb
  have KW21 : Hid (Keep (fun k => ¬ It2 k) w W1) := Lib.hid ((KW2.out.then K1.out).more (fun q e => e.elim id False.elim))
  have s1 := (HS.out.keepF KW21.out (fun h => h i2s)).cell 0
  gi_wp2_with fail
  refine ⟨trivial, (callsIn_wide.2 (ON.out W1)).mono ?_⟩
  rintro e w2 ⟨rfl, rfl⟩
  gi_wp2_with fail
  have hWw : W.heap.size ≤ w2.heap.size := by omega
  have KFIN : Hid (∀ V, Keep (fun k => (A k ∨ k = yb ∨ k = gb ∨ It2 k) ∨ Mt k) w2 V → Keep (fun k => ¬ It2 k) w V → Keep (fun k => A k ∨ Mt k) W V) := Lib.hid (fun V hkp hk2 => by
    refine ⟨hkp.os.trans B1.out.os, hkp.tape.trans B1.out.tape, hkp.output.trans B1.out.output, by have := hkp.size; omega, fun q h1 h2 => ?_⟩
    by_cases h3 : It2 q
    · rw [hk2.block q (IT2.out q h3) (fun h => h h3), ← KW2.out.block q (IT2.out q h3) (fun h => h h3)]
    · rw [hkp.block q (by omega) (fun e => by rcases e with (e | e | e | e) | e; exact h2 (Or.inl e); (have := HYB.out; omega); (have := HGB.out; omega); exact h3 e; exact h2 (Or.inr e))]
      exact B1.out.block q h1)
  have J0 : Hid (MidG sm l yb gb It2 w A W J [] (fun k => A k ∨ k = yb ∨ k = gb ∨ It2 k) w2) := Lib.hid ⟨A, [], none, 0, ⟨fun k => ⟨fun e => by rcases e with e | e | e | e; exact Or.inl e; exact Or.inr (Or.inl (Or.inl e)); exact Or.inr (Or.inl (Or.inr (Or.inl e))); exact Or.inr (Or.inl (Or.inr (Or.inr e))), fun e => by rcases e with e | (e | e | e) | ⟨a, ha, _⟩; exact Or.inl e; exact Or.inr (Or.inl e); exact Or.inr (Or.inr (Or.inl e)); exact Or.inr (Or.inr (Or.inr e)); cases ha⟩,
    fun k hk => ⟨⟨fun e => by have := HLO.out k hk; have := HYB.out; omega, fun e => by have := HLO.out k hk; have := HGB.out; omega, fun h => d3.out k (Or.inr h) hk, fun ⟨a, ha, _⟩ => by cases ha⟩, Or.inl hk⟩, fun a ha => (by cases ha), HJ.out.at H0.out K1.out (fun _ h => h.elim), Y1.out, G1.out, RowA.nil _ _, KW21.out⟩, rfl⟩
  refine range_F (n := 5) (m := 5) (gf := g) (lb := lb) rfl eg HSQ.out ((KW0.out.then K1.out).more (fun q e => e.elim id False.elim)) (fun _ => rfl)
    (MidG sm l yb gb It2 w A W J) (MidX sm yb gb It2 w A W Jx) (fun k => A k ∨ k = yb ∨ k = gb ∨ It2 k) (MidG.stab HJ.out IT2.out) (fun c => MidX.stab HJX.out IT2.out c)
    (fun k hk e => by rcases e with e | e | e | e; exact d3.out k (Or.inl hk) e; (have := LI.out _ hk; have := HYB.out; omega); (have := LI.out _ hk; have := HGB.out; omega); exact d2.out k hk e) (fun k e => by rcases e with e | e | e | e; (have := HLO.out k e; omega); (have := HYB.out; omega); (have := HGB.out; omega); (have := IT2.out k e; omega)) J0.out
    (fun pre x a' => a' = { tmps := #[.func (.yield l) #[] #[], .pointer (some ⟨sb, 0, none⟩), .pointer (some ⟨fb, 0, none⟩), .pointer (some ⟨yb, 0, none⟩), .pointer (some ⟨gb, 0, none⟩), .int .i64 x, .func (.func g) #[] lb, .func (.func g) #[] lb, .int .i64 x, undef, undef, undef, undef, undef, undef, undef, undef, undef, undef, undef, undef, undef, undef, undef, undef, undef, undef, undef, undef, undef, undef, undef, undef, undef, undef], defers := [] })
    ?assign ?body ?done ?stop
  case assign =>
    intro l2 pre x V K hK
    have HK := Lib.hid hK
    clear hK
    gi_wp2
    exact HK.out _ rfl
  case body =>
    rintro l2 prex x a' A2 V hsz ⟨A', ys, Ar, c, gi, hys⟩ hlow hR hfl hfx rfl
    have hRp2 := HRP.out _ _ _ hR
    have hpl := HNN.out _ _ _ hR
    obtain ⟨cur, hcur⟩ : ∃ cur, (gst sm prex).2 = cur := ⟨_, rfl⟩
    have hcl : cur.length ≤ 100000 := by rw [← hcur]; exact Nat.le_trans (gst_len sm prex) hpl
    rw [hcur] at gi
    have lowA' : Low A' V := fun q hq => hlow q ((gi.eq q).2 (Or.inl hq))
    have LA' := Lib.hid lowA'; have HC := Lib.hid hcur; have HYS := Lib.hid hys; have HLW := Lib.hid hlow; have HRR := Lib.hid hRp2
    have hmx : Try.prog.follows .mixedOrders = true := by kernel_rfl
    have GD := Lib.hid gi
    have c3 : V.cell? ⟨yb, 0, none⟩ = some (.func (.yield l) #[] #[]) := gi.y.cell 0
    have c2 : V.cell? ⟨fb, 0, none⟩ = some (.func (.func gf) #[] lf) := (HFB.out.keepF gi.k (fun h => h i2f)).cell 0
    have zg := gi.g.frozen 0
    obtain ⟨n, hn⟩ : ∃ n, cur.length = n := ⟨_, rfl⟩
    have cg : V.cell? ⟨gb, 0, none⟩ = some (.slice Ar n c) := by rw [← hn]; exact gi.g.cell 0
    have HN := Lib.hid hn
    rw [hn] at hcl
    have sub3 : ∀ q, (fun _ : Nat => False) q → fx x q := fun _ h => h.elim
    cases cur with
    | nil =>
      have hn0 : n = 0 := hn.symm
      subst hn0
      clear gi hcur hys hlow hR hfl hfx hRp2 lowA' hn
      gi_wp2
      refine wpIn_mono (Q := fun e a' w' => e = .normal ∧ (∃ m, w' = V.drewN m) ∧ a' = { tmps := #[.func (.yield l) #[] #[], .pointer (some ⟨sb, 0, none⟩), .pointer (some ⟨fb, 0, none⟩), .pointer (some ⟨yb, 0, none⟩), .pointer (some ⟨gb, 0, none⟩), .int .i64 x, .func (.func g) #[] lb, .func (.func g) #[] lb, .int .i64 x, .slice Ar 0 c, .int .i64 0, .bool false, .bool false, undef, undef, undef, undef, undef, undef, undef, .bool false, undef, undef, undef, undef, undef, undef, undef, undef, undef, undef, undef, undef, undef, undef], defers := [] }) ?reg ?_
      case reg =>
        clear HSQ HY HJ HJX HLO H0 HF HRP HRS LI HNN HS HFB ON KW2 KW0 IT2 I2F IEQ d2 d3 Y1 G1 B1 K1 KFIN J0 HYB HGB HYG HIG KW21 LA' HC HYS HLW HRR GD HN sub3 s1 c3 zg
        gi_region_with_o (first | (refine ⟨fun f hf => (by cases hf), ?_⟩) | fail)
        all_goals exact ⟨rfl, ⟨_, rfl⟩, rfl⟩
      rintro e a9 w9 ⟨rfl, ⟨nq, rfl⟩, rfl⟩
      obtain ⟨VV, hVV⟩ : ∃ VV, VV = V.drewN nq := ⟨_, rfl⟩
      rw [← hVV]
      have KB : Hid (Keep (fun _ => False) V VV) := Lib.hid (by rw [hVV]; exact Keep.of_below (fbelowN V nq))
      have GV := Lib.hid (GD.out.keep HJ.out IT2.out KB.out (fun _ h => h.elim))
      have LV : Hid (Low A' VV) := Lib.hid (fun q hq => Nat.lt_of_lt_of_le (LA'.out q hq) KB.out.size)
      have sV := KB.out.size
      clear hVV
      have GA : Hid (Arr VV gb 24 [.slice Ar 0 c]) := Lib.hid GV.out.g
      obtain ⟨V1, hV1⟩ : ∃ V1, V1 = VV.alloc (.cells #[.int .i64 x] 3) := ⟨_, rfl⟩
      have R1 : Hid (RowA V1 3 Ar c (fv [])) := Lib.hid (by rw [hV1]; exact GV.out.r.keepF (Keep.alloc VV _) (fun a ha h => h))
      have SC : Hid (Src V1 (some ⟨VV.heap.size, 0, none⟩) 1 [.int .i64 x]) := Lib.hid (by rw [hV1]; exact Src.one VV 3 (.int .i64 x) (0, 0) 1)
      have G1 : Hid (Arr V1 gb 24 [.slice Ar 0 c]) := Lib.hid (by rw [hV1]; exact GA.out.keepF (Keep.alloc VV _) (fun h => h))
      have HVV := Lib.hid hV1
      have cz : VV.cell? ⟨gb, 0, none⟩ = some (.slice Ar 0 c) := Arr.cell GA.out 0
      clear hV1
      gi_wp2_with (gi_at_builtin; rw [← HVV.out]; refine row_app_in fcells_I rfl _ _ rfl Ar 0 c (fv []) rfl R1.out rfl _ 1 1 [.int .i64 x] rfl rfl SC.out (by intro u hu; obtain rfl : u = .int .i64 x := (by simpa using hu); rfl) (by omega) ?_)
      intro A2r c2 V2 r2 k2 w2'
      have g2 : Arr V2 gb 24 [.slice Ar 0 c] := G1.out.keepF k2 (fun h => by obtain ⟨a, ha, e⟩ := h; exact (GV.out.new a ha).1.2.1 e.symm)
      have zz := g2.frozen 0
      have cz2 := g2.cell 0
      have R2 := Lib.hid r2; have K2 := Lib.hid k2; have W2 := Lib.hid w2'
      clear r2 k2 w2' g2 cz
      gi_wp2
      obtain ⟨A3, l3, lo3, g3⟩ := GI.app GV.out HJ.out IT2.out LV.out (by omega) ⟨HYG.out, HIG.out⟩ (by rfl) R2.out (by rw [← HVV.out]; exact K2.out) (by rw [← HVV.out]; exact W2.out)
      rw [List.nil_append] at g3
      have l0 := Left.trans (Left.still (A := A2) (HLW.out) KB.out) l3
      refine ⟨A3, l0.more sub3, A', ys, A2r, c2, ?_, ?_⟩
      · rw [gst_nil x HC.out]; exact g3
      · rw [gst_nil x HC.out]; exact HYS.out
    | cons a r =>
      have hn1 : 1 ≤ n := by rw [← hn]; simp
      have ham := gst_mem hcur
      obtain ⟨gg, hgg, hg1⟩ := gi.r.at (by simp [fv])
      subst hgg
      have ce : V.cell? ⟨gg, 0, none⟩ = some (.int .i64 a) := by rw [(hg1 0).2 (by simp [fv])]; rfl
      have i1 : decide ((0 : Int) < (n : Int)) = true := by rw [decide_eq_true_eq]; omega
      have i2 : (0 : Int) < (n : Int) := by omega
      have CF : Hid (∀ k, Calls Try.prog gf (#[.int .i64 a, .int .i64 x] ++ lf) (V.drewN k) fun e w'' => e = .returned (.bool (sm a x)) ∧ ∃ m, w'' = V.drewN m) := Lib.hid (fun k => by
        have kk : Keep (fun _ => False) V (V.drewN k) := Keep.of_below (fbelowN V k)
        refine (HF.out prex x a (V.drewN k) (HRS.out _ _ _ _ _ hRp2 kk (fun _ h => h.elim)) ham ((gi.k.then kk).more (fun q e => e.elim (fun h h2 => h (I2F.out q h2)) False.elim))).mono ?_
        rintro e w'' ⟨h, m, rfl⟩
        exact ⟨h, k + m, by rw [World.drewN_drewN]⟩)
      have hgV : gg < V.heap.size := gi.r.lt _ rfl
      clear gi hys hlow hR hfl hfx hRp2 lowA' hn hg1 ham
      cases hsm : sm a x with
      | true =>
        rw [hsm] at CF
        have HSM := Lib.hid hsm
        clear hsm hcur
        gi_wp2
        refine wpIn_mono (Q := fun e a' w' => e = .normal ∧ (∃ m, w' = V.drewN m) ∧ a' = { tmps := #[.func (.yield l) #[] #[], .pointer (some ⟨sb, 0, none⟩), .pointer (some ⟨fb, 0, none⟩), .pointer (some ⟨yb, 0, none⟩), .pointer (some ⟨gb, 0, none⟩), .int .i64 x, .func (.func g) #[] lb, .func (.func g) #[] lb, .int .i64 x, .slice (some ⟨gg, 0, none⟩) n c, .int .i64 n, .bool true, .bool true, .func (.func gf) #[] lf, .slice (some ⟨gg, 0, none⟩) n c, .pointer (some ⟨gg, 0, none⟩), .int .i64 a, .int .i64 x, .bool true, .bool false, .bool false, undef, undef, undef, undef, undef, undef, undef, undef, undef, undef, undef, undef, undef, undef], defers := [] }) ?reg ?_
        case reg =>
          clear HSQ HY HJ HJX HLO H0 HF HRP HRS LI HNN HS HFB ON KW2 KW0 IT2 I2F IEQ d2 d3 Y1 G1 B1 K1 KFIN J0 HYB HGB HYG HIG KW21 LA' HC HYS HLW HRR GD HN sub3 s1 c3 zg HSM
          gi_region_with_o (refine ⟨trivial, (CallsIn.inRound l2 (callsIn_wide.2 (CF.out 1))).mono ?_⟩; rintro e VV ⟨rfl, m, rfl⟩)
          all_goals exact ⟨rfl, ⟨_, rfl⟩, rfl⟩
        rintro e a9 w9 ⟨rfl, ⟨nq, rfl⟩, rfl⟩
        obtain ⟨VV, hVV⟩ : ∃ VV, VV = V.drewN nq := ⟨_, rfl⟩
        rw [← hVV]
        have KB : Hid (Keep (fun _ => False) V VV) := Lib.hid (by rw [hVV]; exact Keep.of_below (fbelowN V nq))
        have GV := Lib.hid (GD.out.keep HJ.out IT2.out KB.out (fun _ h => h.elim))
        have LV : Hid (Low A' VV) := Lib.hid (fun q hq => Nat.lt_of_lt_of_le (LA'.out q hq) KB.out.size)
        have sV := KB.out.size
        clear hVV
        have GA : Hid (Arr VV gb 24 [.slice (some ⟨gg, 0, none⟩) n c]) := Lib.hid (by have h := GV.out.g; rw [HN.out] at h; exact h)
        clear CF
        obtain ⟨V1, hV1⟩ : ∃ V1, V1 = VV.alloc (.cells #[.int .i64 x] 3) := ⟨_, rfl⟩
        have R1 : Hid (RowA V1 3 (some ⟨gg, 0, none⟩) c (fv (a :: r))) := Lib.hid (by rw [hV1]; exact GV.out.r.keepF (Keep.alloc VV _) (fun a ha h => h))
        have SC : Hid (Src V1 (some ⟨VV.heap.size, 0, none⟩) 1 [.int .i64 x]) := Lib.hid (by rw [hV1]; exact Src.one VV 3 (.int .i64 x) (0, 0) 1)
        have G1 : Hid (Arr V1 gb 24 [.slice (some ⟨gg, 0, none⟩) n c]) := Lib.hid (by rw [hV1]; exact GA.out.keepF (Keep.alloc VV _) (fun h => h))
        have HVV := Lib.hid hV1
        have cz : VV.cell? ⟨gb, 0, none⟩ = some (.slice (some ⟨gg, 0, none⟩) n c) := Arr.cell GA.out 0
        clear hV1
        gi_wp2_with (gi_at_builtin; rw [← HVV.out]; refine row_app_in fcells_I rfl _ _ rfl (some ⟨gg, 0, none⟩) n c (fv (a :: r)) rfl R1.out (by rw [fv_len]; exact HN.out) _ 1 1 [.int .i64 x] rfl rfl SC.out (by intro u hu; obtain rfl : u = .int .i64 x := (by simpa using hu); rfl) (by omega) ?_)
        intro A2r c2 V2 r2 k2 w2'
        have g2 : Arr V2 gb 24 [.slice (some ⟨gg, 0, none⟩) n c] := G1.out.keepF k2 (fun h => by obtain ⟨a, ha, e⟩ := h; exact (GV.out.new a ha).1.2.1 e.symm)
        have zz := g2.frozen 0
        have cz2 := g2.cell 0
        have R2 := Lib.hid r2; have K2 := Lib.hid k2; have W2 := Lib.hid w2'
        clear r2 k2 w2' g2 cz
        gi_wp2
        obtain ⟨A3, l3, lo3, g3⟩ := GI.app GV.out HJ.out IT2.out LV.out (by omega) ⟨HYG.out, HIG.out⟩ HN.out R2.out (by rw [← HVV.out]; exact K2.out) (by rw [← HVV.out]; exact W2.out)
        have l0 := Left.trans (Left.still (A := A2) HLW.out KB.out) l3
        have e1 := gst_same (x := x) HC.out HSM.out
        refine ⟨A3, l0.more sub3, A', ys, A2r, c2, ?_, ?_⟩
        · rw [e1, HC.out]; exact g3
        · rw [e1]; exact HYS.out
      | false =>
        rw [hsm] at CF
        have HSM := Lib.hid hsm
        clear hsm hcur
        gi_wp2
        refine wpIn_mono (Q := fun e a' w' => e = .normal ∧ (∃ m, w' = V.drewN m) ∧ a' = { tmps := #[.func (.yield l) #[] #[], .pointer (some ⟨sb, 0, none⟩), .pointer (some ⟨fb, 0, none⟩), .pointer (some ⟨yb, 0, none⟩), .pointer (some ⟨gb, 0, none⟩), .int .i64 x, .func (.func g) #[] lb, .func (.func g) #[] lb, .int .i64 x, .slice (some ⟨gg, 0, none⟩) n c, .int .i64 n, .bool true, .bool true, .func (.func gf) #[] lf, .slice (some ⟨gg, 0, none⟩) n c, .pointer (some ⟨gg, 0, none⟩), .int .i64 a, .int .i64 x, .bool false, .bool true, .bool true, undef, undef, undef, undef, undef, undef, undef, undef, undef, undef, undef, undef, undef, undef], defers := [] }) ?reg ?_
        case reg =>
          clear HSQ HY HJ HJX HLO H0 HF HRP HRS LI HNN HS HFB ON KW2 KW0 IT2 I2F IEQ d2 d3 Y1 G1 B1 K1 KFIN J0 HYB HGB HYG HIG KW21 LA' HC HYS HLW HRR GD HN sub3 s1 c3 zg HSM
          gi_region_with_o (refine ⟨trivial, (CallsIn.inRound l2 (callsIn_wide.2 (CF.out 1))).mono ?_⟩; rintro e VV ⟨rfl, m, rfl⟩)
          all_goals exact ⟨rfl, ⟨_, rfl⟩, rfl⟩
        rintro e a9 w9 ⟨rfl, ⟨nq, rfl⟩, rfl⟩
        obtain ⟨VV, hVV⟩ : ∃ VV, VV = V.drewN nq := ⟨_, rfl⟩
        rw [← hVV]
        have KB : Hid (Keep (fun _ => False) V VV) := Lib.hid (by rw [hVV]; exact Keep.of_below (fbelowN V nq))
        have GV := Lib.hid (GD.out.keep HJ.out IT2.out KB.out (fun _ h => h.elim))
        have LV : Hid (Low A' VV) := Lib.hid (fun q hq => Nat.lt_of_lt_of_le (LA'.out q hq) KB.out.size)
        have sV := KB.out.size
        clear hVV
        have c3' : VV.cell? ⟨yb, 0, none⟩ = some (.func (.yield l) #[] #[]) := GV.out.y.cell 0
        have cg' : VV.cell? ⟨gb, 0, none⟩ = some (.slice (some ⟨gg, 0, none⟩) n c) := by have h := GV.out.g.cell 0; rw [HN.out] at h; exact h
        obtain ⟨fn, tmps, assign, body, hy, hRR⟩ := HY.out ys ⟨some ⟨gg, 0, none⟩, n, c, a :: r⟩ A' VV GV.out.j LV.out (by omega) ⟨⟨prex, HYS.out, HC.out.symm, (by intro h; cases h), Or.inl ⟨x, HRS.out _ _ _ _ _ HRR.out KB.out (fun _ h => h.elim)⟩⟩, GV.out.r, HN.out.symm⟩ (fun q hq => by obtain ⟨b, hb, rfl⟩ := hq; exact GV.out.r.lt b hb) (fun q hq => ⟨fun h => (GV.out.out q h).1.2.2.2 hq, by obtain ⟨b, hb, rfl⟩ := hq; exact (GV.out.new b hb).2⟩) 0
        unfold encG at hy
        dsimp only at hy
        have HRD := Lib.hid hRR
        clear hRR CF
        gi_wp2
        refine (round_any HRD.out).mono ?_
        rintro e V3 ⟨A'', hlf, ⟨rfl, hend⟩ | ⟨rfl, hend⟩⟩
        · have YD := GI.yielded GV.out HJ.out IT2.out (by omega) ⟨HYG.out, HIG.out⟩ hlf hend
          have zg3 := YD.1.choose_spec.2.2.2.1.frozen 0
          have cg3 := YD.1.choose_spec.2.2.2.1.cell 0
          have hs3 := hlf.keep.size
          obtain ⟨-, A4, l4, lo4, g4⟩ := YD
          have L4 := Lib.hid l4; have LO4 := Lib.hid lo4; have G4 := Lib.hid g4
          obtain ⟨V5, hV5⟩ : ∃ V5, V5 = V3.setCell ⟨gb, 0, none⟩ (.slice none 0 0) := ⟨_, rfl⟩
          have hs5 : V5.heap.size = V3.heap.size := by rw [hV5, fset_size]
          rw [← hV5] at L4 LO4 G4
          have ga5 : Arr V5 gb 24 [.slice none 0 0] := G4.out.g
          have GA5 := Lib.hid ga5
          have zg5 := ga5.frozen 0
          have cg5 := ga5.cell 0
          have HV5 := Lib.hid hV5
          clear hlf hend l4 lo4 g4 hy HRD ga5 hV5
          obtain ⟨V1, hV1⟩ : ∃ V1, V1 = V5.alloc (.cells #[.int .i64 x] 3) := ⟨_, rfl⟩
          have R1 : Hid (RowA V1 3 none 0 (fv [])) := Lib.hid (by rw [hV1]; exact G4.out.r.keepF (Keep.alloc V5 _) (fun a ha h => h))
          have SC : Hid (Src V1 (some ⟨V5.heap.size, 0, none⟩) 1 [.int .i64 x]) := Lib.hid (by rw [hV1]; exact Src.one V5 3 (.int .i64 x) (0, 0) 1)
          have G1 : Hid (Arr V1 gb 24 [.slice none 0 0]) := Lib.hid (by rw [hV1]; exact GA5.out.keepF (Keep.alloc V5 _) (fun h => h))
          rw [hs5] at SC
          have HVV := Lib.hid hV1
          have cz : V5.cell? ⟨gb, 0, none⟩ = some (.slice none 0 0) := Arr.cell GA5.out 0
          clear hV1
          gi_wp2_with (gi_at_builtin; rw [← HV5.out]; rw [← HVV.out]; refine row_app_in fcells_I rfl _ _ rfl none 0 0 (fv []) rfl R1.out rfl _ 1 1 [.int .i64 x] rfl rfl SC.out (by intro u hu; obtain rfl : u = .int .i64 x := (by simpa using hu); rfl) (by omega) ?_)
          intro A2r c2 V2 r2 k2 w2'
          have g2 : Arr V2 gb 24 [.slice none 0 0] := G1.out.keepF k2 (fun h => by obtain ⟨a, ha, e⟩ := h; exact (G4.out.new a ha).1.2.1 e.symm)
          have zz := g2.frozen 0
          have cz2 := g2.cell 0
          have R2 := Lib.hid r2; have K2 := Lib.hid k2; have W2 := Lib.hid w2'
          clear r2 k2 w2' g2 cz
          gi_wp2
          obtain ⟨A3, l3, lo3, g3⟩ := GI.app G4.out HJ.out IT2.out LO4.out (by omega) ⟨HYG.out, HIG.out⟩ (by rfl) R2.out (by rw [← HVV.out]; exact K2.out) (by rw [← HVV.out]; exact W2.out)
          rw [List.nil_append] at g3
          have l0 := Left.trans (Left.trans (Left.still (A := A2) HLW.out KB.out) L4.out) l3
          have e1 := gst_next (x := x) HC.out HSM.out
          refine ⟨A3, l0.more sub3, A'', ys ++ [⟨some ⟨gg, 0, none⟩, n, c, a :: r⟩], A2r, c2, ?_, ?_⟩
          · rw [e1]; exact g3
          · rw [e1, List.map_append, HYS.out, HC.out]; rfl
        · have YD := GI.yielded GV.out HJX.out IT2.out (by omega) ⟨HYG.out, HIG.out⟩ hlf hend
          obtain ⟨⟨A4, l4, lo4, ⟨q1, q2⟩, -, k4⟩, -⟩ := YD
          have FIN : Hid (∃ A3, Left A2 (fx x) V V3 A3 ∧ MidX sm yb gb It2 w A W Jx .ret (prex ++ [x]) A3 V3) := Lib.hid ⟨A4, (Left.trans (Left.still (A := A2) HLW.out KB.out) l4).more sub3, rfl, A'', ys ++ [⟨some ⟨gg, 0, none⟩, n, c, a :: r⟩], ⟨q1, q2⟩, hend, k4, prex, x, rfl, by rw [List.map_append, HYS.out, HC.out]; rfl⟩
          clear hlf hend l4 lo4 q1 q2 k4 hy HRD
          gi_wp2
          exact FIN.out
  case done =>
    rintro D xs A2 V hD hS ⟨A', ys, Ar, c, gi, hys⟩ hlow hnt hkp hK
    have hDV : D < V.heap.size := (Array.getElem?_eq_some_iff.1 hK).1
    have lowA' : Low A' V := fun q hq => hlow q ((gi.eq q).2 (Or.inl hq))
    obtain ⟨cur, hcur⟩ : ∃ cur, (gst sm xs).2 = cur := ⟨_, rfl⟩
    rw [hcur] at gi
    obtain ⟨n, hn⟩ : ∃ n, cur.length = n := ⟨_, rfl⟩
    have cg : V.cell? ⟨gb, 0, none⟩ = some (.slice Ar n c) := by rw [← hn]; exact gi.g.cell 0
    have c3 : V.cell? ⟨yb, 0, none⟩ = some (.func (.yield l) #[] #[]) := gi.y.cell 0
    have dIt : ∀ (V' : World), ∀ q, It q → q ≠ D := fun V' q h e => by subst e; have := LI.out _ h; omega
    cases cur with
    | nil =>
      have hn0 : n = 0 := hn.symm
      subst hn0
      have kD := Keep.putObj V D (.deferred none)
      have FIN : Hid (Keep (fun k => A k ∨ Mt k) W (V.putObj D (.deferred none)) ∧ ∃ A', Low A' (V.putObj D (.deferred none)) ∧ (∀ k, A' k → ¬ (It k ∨ k = sb ∨ k = fb ∨ ItF k) ∧ (A k ∨ W.heap.size ≤ k)) ∧ ((∃ ys, GrpS sm S ys (V.putObj D (.deferred none)) ∧ J ys A' (V.putObj D (.deferred none))) ∨ ∃ ys, GrpP sm S Sp ys (V.putObj D (.deferred none)) ∧ Jx ys A' (V.putObj D (.deferred none)))) := Lib.hid (by
        have k1 := KFIN.out V hkp gi.k
        refine ⟨⟨kD.os.trans k1.os, kD.tape.trans k1.tape, kD.output.trans k1.output, Nat.le_trans k1.size kD.size, fun q h1 h2 => (kD.block q (by have := k1.size; omega) (by omega)).trans (k1.block q h1 h2)⟩, A', fun q hq => by simpa using lowA' q hq, fun k hk => ⟨fun e => ?_, (gi.out k hk).2⟩, Or.inl ⟨ys, ⟨xs, ?_, HSQ.out.sstab _ _ _ _ hS kD (fun k e h => dIt V k h e)⟩, HJ.out.at gi.j kD (fun q e h => (hnt _ ((gi.eq _).2 (Or.inl h))).2 e)⟩⟩
        · rcases (IEQ.out k).1 e with h | h
          · exact (hnt k ((gi.eq k).2 (Or.inl hk))).1 h
          · exact (gi.out k hk).1.2.2.1 h
        · unfold groups; rw [if_pos hcur]; exact hys)
      have HK := Lib.hid hK
      clear hS gi hys hlow hnt hkp hK kD lowA' hn hcur
      gi_wp2
      refine ⟨by simp, .inl ⟨_, _, rfl, run_takeDeferred HK.out, ?_⟩⟩
      exact ⟨_, results_none rfl _ _ _, ⟨_, rfl⟩, FIN.out⟩
    | cons a r =>
      have hn1 : 1 ≤ n := by rw [← hn]; simp
      have hne : (gst sm xs).2 ≠ [] := by rw [hcur]; intro h; cases h
      have sV := hkp.size
      obtain ⟨fn, tmps, assign, body, hy, hRR⟩ := HY.out ys ⟨Ar, n, c, a :: r⟩ A' V gi.j lowA' (by omega) ⟨⟨xs, hys, hcur.symm, (by intro h; cases h), Or.inr hS⟩, gi.r, hn.symm⟩ (fun q hq => by obtain ⟨b, hb, rfl⟩ := hq; exact gi.r.lt b hb) (fun q hq => ⟨fun h => (gi.out q h).1.2.2.2 hq, by obtain ⟨b, hb, rfl⟩ := hq; exact (gi.new b hb).2⟩) 0
      unfold encG at hy
      dsimp only at hy
      have HRD := Lib.hid hRR
      have EG : Hid ((ys ++ [(⟨Ar, n, c, a :: r⟩ : Grp)]).map Grp.l = groups sm xs) := Lib.hid (by unfold groups; rw [if_neg hne, List.map_append, hys, hcur]; rfl)
      have KI : Hid (∀ k, It k → k < V.heap.size ∧ ¬ A' k ∧ ¬ Of Ar k) := Lib.hid (fun k hk => ⟨by have := LI.out k hk; omega, fun h => (hnt k ((gi.eq k).2 (Or.inl h))).1 hk, fun h => (hnt k ((gi.eq k).2 (Or.inr (Or.inr h)))).1 hk⟩)
      have DD : Hid (¬ A' D ∧ ¬ Of Ar D) := Lib.hid ⟨fun h => (hnt D ((gi.eq D).2 (Or.inl h))).2 rfl, fun h => (hnt D ((gi.eq D).2 (Or.inr (Or.inr h)))).2 rfl⟩
      have FF : Hid (∀ (Jj : List Grp → (Nat → Prop) → World → Prop) V3 A'', Stab Jj → Left A' (Of Ar) V V3 A'' → Jj (ys ++ [⟨Ar, n, c, a :: r⟩]) A'' V3 →
          V3.heap[D]? = some (.deferred (some [])) ∧ Keep (fun k => A k ∨ Mt k) W (V3.putObj D (.deferred none)) ∧ Low A'' (V3.putObj D (.deferred none)) ∧ (∀ k, A'' k → ¬ (It k ∨ k = sb ∨ k = fb ∨ ItF k) ∧ (A k ∨ W.heap.size ≤ k)) ∧ S xs (V3.putObj D (.deferred none)) ∧ Jj (ys ++ [⟨Ar, n, c, a :: r⟩]) A'' (V3.putObj D (.deferred none))) := Lib.hid (fun Jj V3 A'' hJj lf hend => by
        have kD := Keep.putObj V3 D (.deferred none)
        obtain ⟨⟨A4, l4, lo4, ⟨q1, q2⟩, -, k4⟩, -⟩ := GI.yielded gi hJj IT2.out (by omega) ⟨HYG.out, HIG.out⟩ lf hend
        have hs3 := lf.keep.size
        have nD : ¬ A'' D := fun h => by rcases lf.sub D h with e | e | e; exact DD.out.1 e; exact DD.out.2 e; omega
        have nI : ∀ k, It k → ¬ A'' k := fun k hk h => by have := KI.out k hk; rcases lf.sub k h with e | e | e; exact this.2.1 e; exact this.2.2 e; omega
        have k1 : Keep (fun k => (A k ∨ k = yb ∨ k = gb ∨ It2 k) ∨ Mt k) w2 V3 := ⟨lf.keep.os.trans hkp.os, lf.keep.tape.trans hkp.tape, lf.keep.output.trans hkp.output, Nat.le_trans hkp.size hs3, fun q h1 h2 => (lf.keep.block q (by omega) (fun e => by
          rcases e with e | ⟨b, hb, rfl⟩
          · rcases (gi.out q e).2 with h | h
            · exact h2 (Or.inl (Or.inl h))
            · have := (gi.out q e).1; have := HYB.out; have := HGB.out; omega
          · have := gi.new b hb; have := HYB.out; have := HGB.out; omega)).trans (hkp.block q h1 h2)⟩
        have k2 := KFIN.out V3 k1 k4
        refine ⟨(lf.keep.block D hDV (fun e => e.elim DD.out.1 DD.out.2)).trans hK, ⟨kD.os.trans k2.os, kD.tape.trans k2.tape, kD.output.trans k2.output, Nat.le_trans k2.size kD.size, fun q h1 h2 => (kD.block q (by have := k2.size; omega) (by omega)).trans (k2.block q h1 h2)⟩, fun q hq => by simpa using lo4 q hq, fun k hk => ⟨fun e => ?_, (q2 k hk).2⟩, ?_, hJj.at hend kD (fun q e h => nD (by rw [← e]; exact h))⟩
        · rcases (IEQ.out k).1 e with h | h
          · exact nI k h hk
          · exact (q2 k hk).1.2.2 h
        · exact HSQ.out.sstab _ _ _ _ (HSQ.out.sstab _ _ _ _ hS lf.keep (fun k e h => e.elim (KI.out k h).2.1 (KI.out k h).2.2)) kD (fun k e h => dIt V3 k h e))
      clear hS gi hys hlow hnt hkp hK lowA' hn hcur hRR hne
      gi_wp2
      refine (round_deep HRD.out).mono ?_
      rintro e V3 ⟨A'', hlf, ⟨rfl, hend⟩ | ⟨rfl, hend⟩⟩
      · have F3 := Lib.hid (FF.out J V3 A'' HJ.out hlf hend)
        clear hlf hend hy HRD FF
        gi_wp2
        obtain ⟨f1, f2, f3, f4, f5, f6⟩ := F3.out
        refine ⟨by simp, .inl ⟨_, _, rfl, run_takeDeferred f1, ?_⟩⟩
        exact ⟨_, results_none rfl _ _ _, ⟨_, rfl⟩, f2, A'', f3, f4, Or.inl ⟨_, ⟨xs, EG.out, f5⟩, f6⟩⟩
      · have F3 := Lib.hid (FF.out Jx V3 A'' HJX.out hlf hend)
        clear hlf hend hy HRD FF
        gi_wp2
        obtain ⟨f1, f2, f3, f4, f5, f6⟩ := F3.out
        refine ⟨by simp, .inl ⟨_, _, rfl, run_takeDeferred f1, ?_⟩⟩
        exact ⟨_, results_none rfl _ _ _, ⟨_, rfl⟩, f2, A'', f3, f4, Or.inr ⟨_, Or.inr ⟨xs, EG.out, f5⟩, f6⟩⟩
  case stop =>
    rintro D cc prex A2 V hD hSp ⟨rfl, A', ys, ⟨q1, q2⟩, hj, hk2, pre, x, rfl, hys⟩ hlow hnt hkp hK
    have kD := Keep.putObj V D (.deferred none)
    have hDV : D < V.heap.size := (Array.getElem?_eq_some_iff.1 hK).1
    have FIN : Hid (Keep (fun k => A k ∨ Mt k) W (V.putObj D (.deferred none)) ∧ ∃ A', Low A' (V.putObj D (.deferred none)) ∧ (∀ k, A' k → ¬ (It k ∨ k = sb ∨ k = fb ∨ ItF k) ∧ (A k ∨ W.heap.size ≤ k)) ∧ ((∃ ys, GrpS sm S ys (V.putObj D (.deferred none)) ∧ J ys A' (V.putObj D (.deferred none))) ∨ ∃ ys, GrpP sm S Sp ys (V.putObj D (.deferred none)) ∧ Jx ys A' (V.putObj D (.deferred none)))) := Lib.hid (by
      have k1 := KFIN.out V hkp hk2
      refine ⟨⟨kD.os.trans k1.os, kD.tape.trans k1.tape, kD.output.trans k1.output, Nat.le_trans k1.size kD.size, fun q h1 h2 => (kD.block q (by have := k1.size; omega) (by omega)).trans (k1.block q h1 h2)⟩, A', fun q hq => by simpa using hlow q ((q1 q).2 (Or.inl hq)), fun k hk => ⟨fun e => ?_, (q2 k hk).2⟩, Or.inr ⟨ys, Or.inl ⟨pre, x, hys, HSQ.out.pstab _ _ _ _ hSp kD (fun k e h => by subst e; have := LI.out _ h; omega)⟩, HJX.out.at hj kD (fun q e h => (hnt _ ((q1 _).2 (Or.inl h))).2 e)⟩⟩
      rcases (IEQ.out k).1 e with h | h
      · exact (hnt k ((q1 k).2 (Or.inl hk))).1 h
      · exact (q2 k hk).1.2.2 h)
    have HK := Lib.hid hK
    clear hSp q1 q2 hj hys hk2 hlow hnt hkp hK kD
    gi_wp2
    refine ⟨by simp, .inl ⟨_, _, rfl, run_takeDeferred HK.out, ?_⟩⟩
    exact ⟨_, results_none rfl _ _ _, ⟨_, rfl⟩, FIN.out⟩
end Go.Proofs.Ytjjkddahfmkhoaa
