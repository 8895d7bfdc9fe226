/-
  Package flow: Join over any iterator of ints, with a cursor of ints and 'below'.
-/
import Derived.Sort.CutIn
import Derived.Test.YtjjkddahfmkhoaaGk
namespace Go.Proofs.Ytjjkddahfmkhoaa
set_option linter.unusedVariables false
set_option linter.unusedSimpArgs false
set_option maxRecDepth 100000
open Go.RowKit Go.Shelf
attribute [local go_sem] Oper.semAt_some

theorem name_act2 {C : Fence} {m : Nat} {P : Program} {c : Code} {Q : Exit → Act → World → Prop} {T : Array Value} {ds : List Deferred} {w : World} (h : ∀ Q', Q' = Q → c.wpIn C m P Q' { tmps := T, defers := ds } w) : c.wpIn C m P Q { tmps := T, defers := ds } w := h Q rfl
def jhand (hs : Bool) (b : Int) (rest : List Int) : List Int := if hs = true then b :: rest else []
def jov (ov : Int) (hs : Bool) (x b : Int) : Prop := ov = 0 ↔ hs = true ∧ cmpI x b = 0
theorem CurE.form {Bk : Nat → Prop} {rb : Nat} {xs : List Int} {w w' : World} {e : Ending} (h : CurE Bk rb xs w e w') (hc : CurI Bk w rb xs) : ∃ b hs rest, e = .returned (.tuple #[.int .i64 b, .bool hs]) ∧ (xs = jhand hs b rest) ∧ (hs = false → rest = []) ∧ CurI Bk w' rb rest ∧ Keep (fun k => k = rb) w w' := by
  rcases h with ⟨rfl, rfl, rfl⟩ | ⟨x, r, rfl, rfl, h1, h2⟩
  · exact ⟨0, false, [], rfl, rfl, fun _ => rfl, hc, Keep.refl _ _⟩
  · exact ⟨x, true, r, rfl, rfl, fun h => Bool.noConfusion h, h1, h2⟩
/-- What a join has of its own. -/
structure JO (l yb bb gb hb : Nat) (It2 Bk : Nat → Prop) (rb : Nat) (w : World) (bg hs : Bool) (b : Int) (rest : List Int) (V : World) : Prop where
  y : Arr V yb 68 [.func (.yield l) #[] #[]]
  b : Arr V bb 3 [.int .i64 b]
  g : Arr V gb 4 [.bool bg]
  h : Arr V hb 4 [.bool hs]
  c : CurI Bk V rb rest
  k : Keep (fun k => ¬ It2 k) w V
def JOf (yb bb gb hb : Nat) (It2 Bk : Nat → Prop) (rb : Nat) (k : Nat) : Prop := k = yb ∨ k = bb ∨ k = gb ∨ k = hb ∨ It2 k ∨ k = rb ∨ Bk k
theorem JO.keep {l yb bb gb hb : Nat} {It2 Bk : Nat → Prop} {rb : Nat} {w : World} {bg hs : Bool} {b : Int} {rest : List Int} {V V' : World} {F : Nat → Prop} (h : JO l yb bb gb hb It2 Bk rb w bg hs b rest V) (k : Keep F V V') (hF : ∀ q, F q → ¬ JOf yb bb gb hb It2 Bk rb q) (hBk : Low Bk V) : JO l yb bb gb hb It2 Bk rb w bg hs b rest V' :=
  ⟨h.y.keepF k (fun e => hF _ e (Or.inl rfl)), h.b.keepF k (fun e => hF _ e (Or.inr (Or.inl rfl))), h.g.keepF k (fun e => hF _ e (Or.inr (Or.inr (Or.inl rfl)))), h.h.keepF k (fun e => hF _ e (Or.inr (Or.inr (Or.inr (Or.inl rfl))))), h.c.keep k (fun e => hF _ e (Or.inr (Or.inr (Or.inr (Or.inr (Or.inr (Or.inl rfl))))))) (fun q hq e => hF _ e (Or.inr (Or.inr (Or.inr (Or.inr (Or.inr (Or.inr hq))))))) hBk,
    ⟨k.os.trans h.k.os, k.tape.trans h.k.tape, k.output.trans h.k.output, Nat.le_trans h.k.size k.size, fun q h1 h2 => (k.block q (by have := h.k.size; omega) (fun e => hF q e (Or.inr (Or.inr (Or.inr (Or.inr (Or.inl (Classical.byContradiction h2)))))))).trans (h.k.block q h1 h2)⟩⟩
def JSt (bs prex : List Int) (bg hs : Bool) (b : Int) (rest : List Int) : Prop := (bg = false → hs = false ∧ prex = [] ∧ rest = bs) ∧ (bg = true → jrem bs prex = jhand hs b rest) ∧ (bg = true → hs = false → rest = [])
theorem jdrop_stop {x b : Int} {rest : List Int} (h : cmpI x b ≤ 0) : (b :: rest).dropWhile (fun b => decide (0 < cmpI x b)) = b :: rest := by
  rw [List.dropWhile_cons]
  rw [if_neg]
  rw [decide_eq_true_eq]
  omega
theorem jdrop_go {x b : Int} {rest : List Int} (h : 0 < cmpI x b) : (b :: rest).dropWhile (fun b => decide (0 < cmpI x b)) = rest.dropWhile (fun b => decide (0 < cmpI x b)) := by
  rw [List.dropWhile_cons]
  rw [if_pos]
  rw [decide_eq_true_eq]
  exact h
/-- What is left, read off the memory. -/
def mW (rb hb : Nat) (w : World) : Nat := (match w.cell? ⟨rb, 0, none⟩ with | some (.slice _ n _) => n | _ => 0) + (match w.cell? ⟨hb, 0, none⟩ with | some (.bool true) => 1 | _ => 0)
theorem JO.mw {l yb bb gb hb : Nat} {It2 Bk : Nat → Prop} {rb : Nat} {w : World} {bg hs : Bool} {b : Int} {rest : List Int} {V : World} (h : JO l yb bb gb hb It2 Bk rb w bg hs b rest V) : mW rb hb V = rest.length + (if hs = true then 1 else 0) := by
  obtain ⟨A, n, c, a, ⟨hn, _⟩, _⟩ := h.c
  unfold mW
  rw [h.h.cell 0, a.cell 0, ← hn]
  cases hs <;> rfl
/-- Between the loop and the iterator below. -/
structure MidN (l yb bb gb hb : Nat) (It2 Bk : Nat → Prop) (rb : Nat) (w : World) (bs : List Int) (A : Nat → Prop) (W : World) (J : List Jp → (Nat → Prop) → World → Prop) (prex : List Int) (A2 : Nat → Prop) (V : World) (A' : Nat → Prop) (ys : List Jp) (bg hs : Bool) (b : Int) (rest : List Int) : Prop where
  eq : ∀ k, A2 k ↔ A' k ∨ JOf yb bb gb hb It2 Bk rb k
  out : ∀ k, A' k → ¬ JOf yb bb gb hb It2 Bk rb k ∧ (A k ∨ W.heap.size ≤ k)
  j : J ys A' V
  m : ys.map Jp.a = prex
  o : JO l yb bb gb hb It2 Bk rb w bg hs b rest V
  s : JSt bs prex bg hs b rest
  bk : Low Bk V
def MidM (l yb bb gb hb : Nat) (It2 Bk : Nat → Prop) (rb : Nat) (w : World) (bs : List Int) (A : Nat → Prop) (W : World) (J : List Jp → (Nat → Prop) → World → Prop) (prex : List Int) (A2 : Nat → Prop) (V : World) : Prop := ∃ A' ys bg hs b rest, MidN l yb bb gb hb It2 Bk rb w bs A W J prex A2 V A' ys bg hs b rest
theorem MidM.stab {l yb bb gb hb : Nat} {It2 Bk : Nat → Prop} {rb : Nat} {w : World} {bs : List Int} {A : Nat → Prop} {W : World} {J : List Jp → (Nat → Prop) → World → Prop} (h : Stab J) : Stab (MidM l yb bb gb hb It2 Bk rb w bs A W J) := fun s A2 V V' hs k => by
  obtain ⟨A', ys, bg, hs, b, rest, m⟩ := hs
  exact ⟨A', ys, bg, hs, b, rest, m.eq, m.out, h.at m.j k (fun q hq hA => hq ((m.eq q).2 (Or.inl hA))), m.m, m.o.keep k (fun q hq ho => hq ((m.eq q).2 (Or.inr ho))) m.bk, m.s, fun q hq => Nat.lt_of_lt_of_le (m.bk q hq) k.size⟩
def JoinR (bs : List Int) (Rp : List Int → Int → World → Prop) (pre : List Jp) (y : Jp) (W : World) : Prop := Rp (pre.map Jp.a) y.a W ∧ JpAt bs (pre.map Jp.a) W y
set_option maxHeartbeats 16000000 in
theorem joinseq (bs : List Int) {g : Nat} {lb : Array Value} {fx : Int → Nat → Prop} {R Rp : List Int → Int → World → Prop} {S Sp : List Int → World → Prop} {It Mt : Nat → Prop} {w0 : World} (hseq : SeqF Try.prog g lb (fun x => #[Value.int .i64 x]) fx R S Sp It Mt w0) (w : World) (hw : Keep (fun k => ¬ It k) w0 w) (eg : ∀ args w, (callFunc g args).run Try.prog w = .ok (.enter g args) w)
    (hRp : ∀ pre x W, R pre x W → Rp pre x W) (rpst : ∀ pre x W W' F, Rp pre x W → Keep F W W' → (∀ k, F k → ¬ It k) → Rp pre x W')
    (Bk : Nat → Prop) (rb : Nat) (hcu : CurI Bk w rb bs) (hBk : Low Bk w) (hrb : ¬ Bk rb)
    (sb nb cb : Nat) (hs : Arr w sb 29 [.func (.func g) #[] lb]) (hnb : Arr w nb 54 [.func (.func 56) #[] #[.pointer (some ⟨rb, 0, none⟩)]]) (hcb : Arr w cb 47 [.func (.func 32) #[] #[]])
    (dI : ∀ k, It k → (k ≠ sb ∧ k ≠ nb ∧ k ≠ cb) ∧ k ≠ rb ∧ ¬ Bk k) (dB : (rb ≠ sb ∧ rb ≠ nb ∧ rb ≠ cb) ∧ ¬ Bk sb ∧ ¬ Bk nb ∧ ¬ Bk cb) :
    SeqF Try.prog 58 #[.pointer (some ⟨sb, 0, none⟩), .pointer (some ⟨nb, 0, none⟩), .pointer (some ⟨cb, 0, none⟩)] encJ (fun y => Of y.p) (JoinR bs Rp) (fun ys W => S (ys.map Jp.a) W) (fun ys W => Sp (ys.map Jp.a) W) (fun k => It k ∨ (k = sb ∨ k = nb ∨ k = cb) ∨ k = rb ∨ Bk k) (fun k => Mt k ∨ k = rb) w := by
  have lowI : Low It w := fun k hk => Nat.lt_of_lt_of_le (hseq.low k hk) hw.size
  refine ⟨fun k hk => ?_, fun k hk => ?_, fun _ _ _ _ _ h k d => ⟨rpst _ _ _ _ _ h.1 k (fun q hq hi => (d q hq).2 (Or.inl hi)), h.2.keep k (fun q hq h => (d q h).1 hq)⟩, fun _ _ _ _ h k d => hseq.sstab _ _ _ _ h k (fun q hq hi => d q hq (Or.inl hi)), fun _ _ _ _ h k d => hseq.pstab _ _ _ _ h k (fun q hq hi => d q hq (Or.inl hi)), ?_⟩
  · rcases hk with h | (rfl | rfl | rfl) | rfl | h
    · exact lowI k h
    · exact Arr.lt hs
    · exact Arr.lt hnb
    · exact Arr.lt hcb
    · exact hcu.lt
    · exact hBk k h
  · rcases hk with h | rfl
    · exact Or.inl (hseq.mt k h)
    · exact Or.inr (Or.inr (Or.inl rfl))
  intro l J Jx A W hW hJ hJx hdis hlow hY h0
  have hIt2 : Low (fun k => k = sb ∨ k = nb ∨ k = cb) w := fun k hk => by
    rcases hk with rfl | rfl | rfl
    · exact Arr.lt hs
    · exact Arr.lt hnb
    · exact Arr.lt hcb
  obtain ⟨It2, hI2⟩ : ∃ It2 : Nat → Prop, It2 = fun k => k = sb ∨ k = nb ∨ k = cb := ⟨_, rfl⟩
  have i2s : It2 sb := by rw [hI2]; exact Or.inl rfl
  have i2n : It2 nb := by rw [hI2]; exact Or.inr (Or.inl rfl)
  have i2c : It2 cb := by rw [hI2]; exact Or.inr (Or.inr rfl)
  have dO : Hid (∀ k, It k → ¬ It2 k ∧ k ≠ rb ∧ ¬ Bk k) := Lib.hid (fun k h => ⟨fun h2 => by rw [hI2] at h2; rcases h2 with e | e | e; exact (dI k h).1.1 e; exact (dI k h).1.2.1 e; exact (dI k h).1.2.2 e, (dI k h).2⟩)
  have dR : Hid (¬ It2 rb ∧ ∀ k, Bk k → ¬ It2 k) := Lib.hid ⟨fun h2 => by rw [hI2] at h2; rcases h2 with e | e | e; exact dB.1.1 e; exact dB.1.2.1 e; exact dB.1.2.2 e, fun k h h2 => by rw [hI2] at h2; rcases h2 with e | e | e; exact dB.2.1 (by rw [← e]; exact h); exact dB.2.2.1 (by rw [← e]; exact h); exact dB.2.2.2 (by rw [← e]; exact h)⟩
  have IEQ : Hid (∀ k, (It k ∨ (k = sb ∨ k = nb ∨ k = cb) ∨ k = rb ∨ Bk k) ↔ (It k ∨ It2 k ∨ k = rb ∨ Bk k)) := Lib.hid (fun k => by rw [hI2])
  have d3 : Hid (∀ k, It k ∨ It2 k ∨ k = rb ∨ Bk k → ¬ A k) := Lib.hid (fun k h => hdis k ((IEQ.out k).2 h))
  rw [← hI2] at hIt2
  have hWs : w.heap.size ≤ W.heap.size := hW.size
  have IT2 := Lib.hid hIt2
  clear hI2
  have KW2 : Hid (Keep (fun k => ¬ It2 k) w W) := Lib.hid (hW.more (fun q h h2 => h ((IEQ.out q).2 (Or.inr (Or.inl h2)))))
  have KW0 : Hid (Keep (fun k => ¬ It k) w0 W) := Lib.hid ((hw.then hW).more (fun q h => h.elim id (fun h h2 => h (Or.inl h2))))
  have CU : Hid (CurI Bk W rb bs) := Lib.hid (hcu.keep hW (fun h => h (Or.inr (Or.inr (Or.inl rfl)))) (fun q hq h => h (Or.inr (Or.inr (Or.inr hq)))) hBk)
  have LBK : Hid (Low Bk w) := Lib.hid hBk
  have hrw : rb < w.heap.size := hcu.lt
  have HSQ := Lib.hid hseq; have HY := Lib.hid hY; have HJ := Lib.hid hJ; have HJX := Lib.hid hJx; have HLO := Lib.hid hlow; have H0 := Lib.hid h0; have HRP := Lib.hid hRp; have HRS := Lib.hid rpst; have LI := Lib.hid lowI
  have HS := Lib.hid hs; have HNB := Lib.hid hnb; have HCB := Lib.hid hcb; have HRB := Lib.hid hrb
  have ON := Lib.hid (ornone_I (.func g) #[] lb)
  clear hseq hY hJ hJx hlow h0 hRp rpst lowI hs hnb hcb hW hw hdis hIt2 dI dB hcu hBk hrb
  refine (callsIn_wide (n := 5)).1 ?_
  refine callsIn_of_wp_marks Try.func58 rfl trivial ?_ rfl
  simp only [Try.ntmps58, List.size_toArray, List.length_cons, List.length_nil, Nat.reduceAdd, Nat.reduceSub, Array.replicate_succ, Array.replicate_zero, List.push_toArray, List.append_toArray, List.nil_append, List.cons_append]
  obtain ⟨w1, hw1⟩ : ∃ w1, w1 = W.alloc (.cells #[.func (.yield l) #[] #[]] 68) := ⟨_, rfl⟩
  obtain ⟨w2, hw2⟩ : ∃ w2, w2 = w1.alloc (.cells #[.int .i64 0] 3) := ⟨_, rfl⟩
  obtain ⟨w3, hw3⟩ : ∃ w3, w3 = w2.alloc (.cells #[.bool false] 4) := ⟨_, rfl⟩
  obtain ⟨W1, hW1⟩ : ∃ W1, W1 = w3.alloc (.cells #[.bool false] 4) := ⟨_, rfl⟩
  have s1 : w1.heap.size = W.heap.size + 1 := by rw [hw1]; simp
  have s2 : w2.heap.size = W.heap.size + 2 := by rw [hw2]; simp [s1]
  have s3 : w3.heap.size = W.heap.size + 3 := by rw [hw3]; simp [s2]
  have s4 : W1.heap.size = W.heap.size + 4 := by rw [hW1]; simp [s3]
  obtain ⟨yb, hyb⟩ : ∃ yb, yb = W.heap.size := ⟨_, rfl⟩
  obtain ⟨bb, hbb⟩ : ∃ bb, bb = W.heap.size + 1 := ⟨_, rfl⟩
  obtain ⟨gb, hgb⟩ : ∃ gb, gb = W.heap.size + 1 + 1 := ⟨_, rfl⟩
  obtain ⟨hb, hhb⟩ : ∃ hb, hb = W.heap.size + 1 + 1 + 1 := ⟨_, rfl⟩
  have b1 : Below W.heap.size W w1 := by rw [hw1]; exact balloc _ _
  have b2 : Below w1.heap.size w1 w2 := by rw [hw2]; exact balloc _ _
  have b3 : Below w2.heap.size w2 w3 := by rw [hw3]; exact balloc _ _
  have b4 : Below w3.heap.size w3 W1 := by rw [hW1]; exact balloc _ _
  have B1 : Hid (Below W.heap.size W W1) := Lib.hid (((b1.trans (b2.mono (by omega))).trans (b3.mono (by omega))).trans (b4.mono (by omega)))
  have K1 : Hid (Keep (fun _ => False) W W1) := Lib.hid (Keep.of_below B1.out)
  have KW21 : Hid (Keep (fun k => ¬ It2 k) w W1) := Lib.hid ((KW2.out.then K1.out).more (fun q e => e.elim id False.elim))
  have O1 : Hid (JO l yb bb gb hb It2 Bk rb w false false 0 bs W1) := Lib.hid ⟨
    by have h : Arr w1 yb 68 [.func (.yield l) #[] #[]] := by rw [hw1, hyb]; exact Arr.new W _ [_]
       exact ((h.below b2).below b3).below b4,
    by have h : Arr w2 bb 3 [.int .i64 0] := by rw [hw2, hbb, ← s1]; exact Arr.new w1 _ [_]
       exact (h.below b3).below b4,
    by have h : Arr w3 gb 4 [.bool false] := by rw [hw3, hgb, show W.heap.size + 1 + 1 = w2.heap.size by omega]; exact Arr.new w2 _ [_]
       exact h.below b4,
    by rw [hW1, hhb, show W.heap.size + 1 + 1 + 1 = w3.heap.size by omega]; exact Arr.new w3 _ [_],
    CU.out.keep K1.out (fun h => h) (fun q _ h => h) (fun q hq => by have := LBK.out q hq; omega), KW21.out⟩
  gi_upto_region 3 with fail
  rw [← hw1, ← hw2, ← hw3, ← hW1, ← hhb, ← hgb, ← hbb, ← hyb]
  have NE : Hid ((yb ≠ bb ∧ yb ≠ gb ∧ yb ≠ hb ∧ bb ≠ gb ∧ bb ≠ hb ∧ gb ≠ hb) ∧ ∀ k, k = yb ∨ k = bb ∨ k = gb ∨ k = hb → W.heap.size ≤ k ∧ k < W1.heap.size) := Lib.hid ⟨by omega, fun k h => by omega⟩
  have hWw : W.heap.size ≤ W1.heap.size := by omega
  have WYS : Hid (∀ k, W.heap.size ≤ k → k < W1.heap.size → k = yb ∨ k = bb ∨ k = gb ∨ k = hb) := Lib.hid (fun k h1 h2 => by omega)
  have sc := (HS.out.keepF KW21.out (fun h => h i2s)).cell 0
  clear hw1 hw2 hw3 hW1 s1 s2 s3 s4 hyb hbb hgb hhb b1 b2 b3 b4
  gi_wp2_with fail
  refine ⟨trivial, (callsIn_wide.2 (ON.out W1)).mono ?_⟩
  rintro e w9 ⟨rfl, rfl⟩
  clear sc
  gi_wp2_with fail
  have OO : Hid (∀ k, JOf yb bb gb hb It2 Bk rb k → ¬ A k ∧ k < w9.heap.size) := Lib.hid (fun k h => by
    have old : W.heap.size ≤ k → ¬ A k := fun h1 h2 => by have := HLO.out k h2; omega
    rcases h with h | h | h | h | h | h | h
    · exact ⟨old (NE.out.2 k (Or.inl h)).1, (NE.out.2 k (Or.inl h)).2⟩
    · exact ⟨old (NE.out.2 k (Or.inr (Or.inl h))).1, (NE.out.2 k (Or.inr (Or.inl h))).2⟩
    · exact ⟨old (NE.out.2 k (Or.inr (Or.inr (Or.inl h)))).1, (NE.out.2 k (Or.inr (Or.inr (Or.inl h)))).2⟩
    · exact ⟨old (NE.out.2 k (Or.inr (Or.inr (Or.inr h)))).1, (NE.out.2 k (Or.inr (Or.inr (Or.inr h)))).2⟩
    · exact ⟨d3.out k (Or.inr (Or.inl h)), by have := IT2.out k h; omega⟩
    · exact ⟨d3.out k (Or.inr (Or.inr (Or.inl h))), by omega⟩
    · exact ⟨d3.out k (Or.inr (Or.inr (Or.inr h))), by have := LBK.out k h; omega⟩)
  have OI : Hid (∀ k, It k → ¬ JOf yb bb gb hb It2 Bk rb k) := Lib.hid (fun k hk h => by
    have h1 := LI.out k hk
    have h2 := dO.out k hk
    rcases h with h | h | h | h | h | h | h
    · have := (NE.out.2 k (Or.inl h)).1; omega
    · have := (NE.out.2 k (Or.inr (Or.inl h))).1; omega
    · have := (NE.out.2 k (Or.inr (Or.inr (Or.inl h)))).1; omega
    · have := (NE.out.2 k (Or.inr (Or.inr (Or.inr h)))).1; omega
    · exact h2.1 h
    · exact h2.2.1 h
    · exact h2.2.2 h)
  have J0 : Hid (MidM l yb bb gb hb It2 Bk rb w bs A W J [] (fun k => A k ∨ JOf yb bb gb hb It2 Bk rb k) w9) := Lib.hid ⟨A, [], false, false, 0, bs, fun k => Iff.rfl, fun k hk => ⟨fun h => (OO.out k h).1 hk, Or.inl hk⟩, HJ.out.at H0.out K1.out (fun _ h => h.elim), rfl, O1.out, ⟨fun _ => ⟨rfl, rfl, rfl⟩, fun h => (by cases h), fun h => (by cases h)⟩, fun q hq => by have := LBK.out q hq; omega⟩
  have KFIN : Hid (∀ V, Keep (fun k => (A k ∨ JOf yb bb gb hb It2 Bk rb k) ∨ Mt k) w9 V → Keep (fun k => ¬ It2 k) w V → (∀ q, Bk q → V.heap[q]? = w9.heap[q]?) → Keep (fun k => A k ∨ Mt k ∨ k = rb) W V) := Lib.hid (fun V hkp hk2 hbk => by
    refine ⟨hkp.os.trans B1.out.os, hkp.tape.trans B1.out.tape, hkp.output.trans B1.out.output, by have := hkp.size; omega, fun q h1 h2 => ?_⟩
    by_cases h3 : It2 q
    · rw [hk2.block q (IT2.out q h3) (fun h => h h3), ← KW2.out.block q (IT2.out q h3) (fun h => h h3)]
    · by_cases h4 : Bk q
      · rw [hbk q h4]; exact B1.out.block q h1
      · rw [hkp.block q (by omega) (fun e => by
          rcases e with (e | e | e | e | e | e | e | e) | e
          · exact h2 (Or.inl e)
          · have := (NE.out.2 q (Or.inl e)).1; omega
          · have := (NE.out.2 q (Or.inr (Or.inl e))).1; omega
          · have := (NE.out.2 q (Or.inr (Or.inr (Or.inl e)))).1; omega
          · have := (NE.out.2 q (Or.inr (Or.inr (Or.inr e)))).1; omega
          · exact h3 e
          · exact h2 (Or.inr (Or.inr e))
          · exact h4 e
          · exact h2 (Or.inr (Or.inl e)))]
        exact B1.out.block q h1)
  refine range_F (n := 5) (m := 5) (gf := g) (lb := lb) rfl eg HSQ.out ((KW0.out.then K1.out).more (fun q e => e.elim id False.elim)) (fun _ => rfl)
    (fun prex A2 V => MidM l yb bb gb hb It2 Bk rb w bs A W J prex A2 V ∧ ∀ q, Bk q → V.heap[q]? = w9.heap[q]?) (fun c prex A2 V => c = .ret ∧ MidM l yb bb gb hb It2 Bk rb w bs A W Jx prex A2 V ∧ ∀ q, Bk q → V.heap[q]? = w9.heap[q]?) (fun k => A k ∨ JOf yb bb gb hb It2 Bk rb k)
    (fun s A2 V V' h k => ⟨MidM.stab HJ.out s A2 V V' h.1 k, fun q hq => by
      obtain ⟨A', ys, bg, hs, b, rest, m⟩ := h.1
      exact (k.block q (m.bk q hq) (fun e => e ((m.eq q).2 (Or.inr (Or.inr (Or.inr (Or.inr (Or.inr (Or.inr (Or.inr hq)))))))))).trans (h.2 q hq)⟩)
    (fun c s A2 V V' h k => ⟨h.1, MidM.stab HJX.out s A2 V V' h.2.1 k, fun q hq => by
      obtain ⟨A', ys, bg, hs, b, rest, m⟩ := h.2.1
      exact (k.block q (m.bk q hq) (fun e => e ((m.eq q).2 (Or.inr (Or.inr (Or.inr (Or.inr (Or.inr (Or.inr (Or.inr hq)))))))))).trans (h.2.2 q hq)⟩)
    (fun k hk e => e.elim (d3.out k (Or.inl hk)) (OI.out k hk)) (fun k e => e.elim (fun e => by have := HLO.out k e; omega) (fun e => (OO.out k e).2)) ⟨J0.out, fun _ _ => rfl⟩
    (fun pre x a' => a' = { tmps := #[.func (.yield l) #[] #[], .pointer (some ⟨sb, 0, none⟩), .pointer (some ⟨nb, 0, none⟩), .pointer (some ⟨cb, 0, none⟩), .pointer (some ⟨yb, 0, none⟩), .pointer (some ⟨bb, 0, none⟩), .pointer (some ⟨gb, 0, none⟩), .pointer (some ⟨hb, 0, none⟩), .int .i64 x, undef, .func (.func g) #[] lb, .func (.func g) #[] lb, .int .i64 x, undef, undef, undef, undef, undef, undef, undef, undef, undef, undef, undef, undef, undef, undef, undef, undef, undef, undef, undef, undef, undef, undef, undef, undef, undef, undef, undef], defers := [] })
    ?assign ?body ?done ?stop
  case assign =>
    intro l2 pre x V K hK
    have HK := Lib.hid hK
    clear hK
    gi_wp2
    exact HK.out _ rfl
  case body =>
    rintro l2 prex x a' A2 V hsz ⟨⟨A', ys, bg, hs, b, rest, m⟩, hbk⟩ hlow hR hfl hfx rfl
    have hRp2 := HRP.out _ _ _ hR
    have M := Lib.hid m; have HBK := Lib.hid hbk; have HLW := Lib.hid hlow; have HRR := Lib.hid hRp2
    have lowA' : Hid (Low A' V) := Lib.hid (fun q hq => hlow q ((m.eq q).2 (Or.inl hq)))
    have lowO : Hid (∀ q, JOf yb bb gb hb It2 Bk rb q → q < V.heap.size) := Lib.hid (fun q hq => hlow q ((m.eq q).2 (Or.inr hq)))
    have nB : Hid (∀ q, Bk q → ¬ (q = bb ∨ q = gb ∨ q = hb ∨ q = rb)) := Lib.hid (fun q hq h => by
      have h1 := LBK.out q hq
      rcases h with h | h | h | h
      · have := (NE.out.2 q (Or.inr (Or.inl h))).1; omega
      · have := (NE.out.2 q (Or.inr (Or.inr (Or.inl h)))).1; omega
      · have := (NE.out.2 q (Or.inr (Or.inr (Or.inr h)))).1; omega
      · subst h; exact HRB.out hq)
    have nI2 : Hid (∀ q, It2 q → ¬ (q = bb ∨ q = gb ∨ q = hb ∨ q = rb)) := Lib.hid (fun q hq h => by
      have h1 := IT2.out q hq
      rcases h with h | h | h | h
      · have := (NE.out.2 q (Or.inr (Or.inl h))).1; omega
      · have := (NE.out.2 q (Or.inr (Or.inr (Or.inl h)))).1; omega
      · have := (NE.out.2 q (Or.inr (Or.inr (Or.inr h)))).1; omega
      · subst h; exact dR.out.1 hq)
    have rbn : Hid (rb ≠ yb ∧ rb ≠ bb ∧ rb ≠ gb ∧ rb ≠ hb) := Lib.hid ⟨fun h => by have := (NE.out.2 rb (Or.inl h)).1; omega, fun h => by have := (NE.out.2 rb (Or.inr (Or.inl h))).1; omega, fun h => by have := (NE.out.2 rb (Or.inr (Or.inr (Or.inl h)))).1; omega, fun h => by have := (NE.out.2 rb (Or.inr (Or.inr (Or.inr h)))).1; omega⟩
    -- what a question of the cursor leaves, with its stores
    have ASK : Hid (∀ (bg' bg hs hs' : Bool) (b b' : Int) (rest rest' : List Int) (V0 V1 : World), Low Bk V0 → JO l yb bb gb hb It2 Bk rb w bg hs b rest V0 → CurI Bk V1 rb rest' → Keep (fun k => k = rb) V0 V1 →
        JO l yb bb gb hb It2 Bk rb w bg hs' b' rest' ((V1.setCell ⟨bb, 0, none⟩ (.int .i64 b')).setCell ⟨hb, 0, none⟩ (.bool hs')) ∧ Keep (fun k => k = bb ∨ k = gb ∨ k = hb ∨ k = rb) V0 ((V1.setCell ⟨bb, 0, none⟩ (.int .i64 b')).setCell ⟨hb, 0, none⟩ (.bool hs'))) := Lib.hid (fun bg' bg hs hs' b b' rest rest' V0 V1 lB o cc kk => by
      have n := NE.out.1
      have r := rbn.out
      have k2 := (kk.then (Keep.set V1 bb 0 (.int .i64 b'))).then (Keep.set (V1.setCell ⟨bb, 0, none⟩ (.int .i64 b')) hb 0 (.bool hs'))
      have k3 : Keep (fun k => k = bb ∨ k = gb ∨ k = hb ∨ k = rb) V0 ((V1.setCell ⟨bb, 0, none⟩ (.int .i64 b')).setCell ⟨hb, 0, none⟩ (.bool hs')) := k2.more (fun q e => by rcases e with (e | e) | e; exact Or.inr (Or.inr (Or.inr e)); exact Or.inl e; exact Or.inr (Or.inr (Or.inl e)))
      refine ⟨⟨o.y.keepF k3 (fun e => by rcases e with e | e | e | e; exact n.1 e; exact n.2.1 e; exact n.2.2.1 e; exact r.1 e.symm), ?_, ?_, ?_, ?_, ?_⟩, k3⟩
      · have h := (o.b.keepF kk (fun e => r.2.1 e.symm)).set 0 (.int .i64 b')
        exact h.far n.2.2.2.2.1 _
      · exact ((o.g.keepF kk (fun e => r.2.2.1 e.symm)).far (fun e => n.2.2.2.1 e.symm) _).far n.2.2.2.2.2 _
      · have h := ((o.h.keepF kk (fun e => r.2.2.2 e.symm)).far (fun e => n.2.2.2.2.1 e.symm) (.int .i64 b') (k := 0)).set 0 (.bool hs')
        exact h
      · have lB1 : Low Bk V1 := fun q hq => Nat.lt_of_lt_of_le (lB q hq) kk.size
        refine (cc.keep (Keep.set V1 bb 0 (.int .i64 b')) (fun e => r.2.1 e) (fun q hq e => nB.out q hq (Or.inl e)) lB1).keep (Keep.set _ hb 0 _) (fun e => r.2.2.2 e) (fun q hq e => nB.out q hq (Or.inr (Or.inr (Or.inl e)))) (fun q hq => by rw [fset_size]; exact lB1 q hq)
      · exact ⟨k3.os.trans o.k.os, k3.tape.trans o.k.tape, k3.output.trans o.k.output, Nat.le_trans o.k.size k3.size, fun q h1 h2 => (k3.block q (by have := o.k.size; omega) (nI2.out q (Classical.byContradiction h2))).trans (o.k.block q h1 h2)⟩)
    have lB0 : Hid (Low Bk V) := Lib.hid m.bk
    clear m hbk hlow hR hfl hfx hRp2
    obtain ⟨Q1, hQ1⟩ : ∃ Q1 : Exit → Act → World → Prop, Q1 = (fun e a9 V1 => e = .normal ∧ ∃ hs1 b1 rest1 u13 u14 u15 u16 u17 u18 u19, a9 = { tmps := #[.func (.yield l) #[] #[], .pointer (some ⟨sb, 0, none⟩), .pointer (some ⟨nb, 0, none⟩), .pointer (some ⟨cb, 0, none⟩), .pointer (some ⟨yb, 0, none⟩), .pointer (some ⟨bb, 0, none⟩), .pointer (some ⟨gb, 0, none⟩), .pointer (some ⟨hb, 0, none⟩), .int .i64 x, undef, .func (.func g) #[] lb, .func (.func g) #[] lb, .int .i64 x, u13, u14, u15, u16, u17, u18, u19, undef, undef, undef, undef, undef, undef, undef, undef, undef, undef, undef, undef, undef, undef, undef, undef, undef, undef, undef, undef], defers := [] } ∧ JO l yb bb gb hb It2 Bk rb w true hs1 b1 rest1 V1 ∧ (jrem bs prex = jhand hs1 b1 rest1) ∧ (hs1 = false → rest1 = []) ∧ Keep (fun k => k = bb ∨ k = gb ∨ k = hb ∨ k = rb) V V1) := ⟨_, rfl⟩
    have HQ1 := Lib.hid hQ1
    clear hQ1
    refine wpIn_block (wpIn_seq (wpIn_mono (Q := Q1) ?_ ?_))
    · have cg := M.out.o.g.cell 0
      have cn : V.cell? ⟨nb, 0, none⟩ = some (.func (.func 56) #[] #[.pointer (some ⟨rb, 0, none⟩)]) := (HNB.out.keepF M.out.o.k (fun h => h i2n)).cell 0
      cases hbg : bg with
      | true =>
        have ST := M.out.s
        rw [hbg] at cg
        have FIN : Hid (JO l yb bb gb hb It2 Bk rb w true hs b rest V ∧ (jrem bs prex = jhand hs b rest) ∧ (hs = false → rest = []) ∧ Keep (fun k => k = bb ∨ k = gb ∨ k = hb ∨ k = rb) V V) := Lib.hid ⟨by have h := M.out.o; rw [hbg] at h; exact h, ST.2.1 hbg, fun h => ST.2.2 hbg h, Keep.refl _ _⟩
        clear ST cn hbg
        gi_wp2
        rw [HQ1.out]
        exact ⟨rfl, hs, b, rest, _, _, _, _, _, _, _, rfl, FIN.out⟩
      | false =>
        have ST := M.out.s
        rw [hbg] at cg
        obtain ⟨e1, e2, e3⟩ := ST.1 hbg
        have O0 : Hid (JO l yb bb gb hb It2 Bk rb w false hs b rest V) := Lib.hid (by have h := M.out.o; rw [hbg] at h; exact h)
        have JR : Hid (jrem bs prex = rest) := Lib.hid (by rw [e2, e3]; rfl)
        have CN := Lib.hid (cursor_next Bk rb rest V O0.out.c HRB.out lB0.out)
        clear ST hbg e1 e2 e3
        gi_wp2_with fail
        refine ⟨trivial, (CallsIn.inRound l2 (callsIn_wide.2 CN.out)).mono ?_⟩
        rintro e V1 hce
        obtain ⟨b1, hs1, rest1, rfl, hr1, hz1, cc, kk⟩ := CurE.form hce O0.out.c
        have n := NE.out.1; have r := rbn.out
        have wb := (O0.out.b.keepF kk (fun e => r.2.1 e.symm)); have wg := (O0.out.g.keepF kk (fun e => r.2.2.1 e.symm)); have wh := (O0.out.h.keepF kk (fun e => r.2.2.2 e.symm))
        have zb := wb.frozen 0
        have xb := wb.cell 0
        have xh := (wh.far (fun e => n.2.2.2.2.1 e.symm) (.int .i64 b1) (k := 0)).cell 0
        have zh := (wh.far (fun e => n.2.2.2.2.1 e.symm) (.int .i64 b1) (k := 0)).frozen 0
        have xg := ((wg.far (fun e => n.2.2.2.1 e.symm) (.int .i64 b1) (k := 0)).far n.2.2.2.2.2 (.bool hs1) (k := 0)).cell 0
        have zg := ((wg.far (fun e => n.2.2.2.1 e.symm) (.int .i64 b1) (k := 0)).far n.2.2.2.2.2 (.bool hs1) (k := 0)).frozen 0
        have AS := Lib.hid (ASK.out true false hs hs1 b b1 rest rest1 V V1 lB0.out O0.out cc kk)
        have HR1 := Lib.hid hr1; have HZ1 := Lib.hid hz1
        clear hce hr1 hz1 cc kk CN n r wb wg wh cg cn
        gi_wp2
        obtain ⟨o1, k1⟩ := AS.out
        have n := NE.out.1; have r := rbn.out
        rw [HQ1.out]
        refine ⟨rfl, hs1, b1, rest1, _, _, _, _, _, _, _, rfl, ⟨o1.y.far (by omega) _, o1.b.far (by omega) _, ?_, o1.h.far (by omega) _, ?_, ?_⟩, by rw [JR.out, HR1.out], HZ1.out, ?_⟩
        · have h := o1.g.set 0 (.bool true)
          exact h
        · exact o1.c.keep (Keep.set _ gb 0 _) (fun e => r.2.2.1 e) (fun q hq e => nB.out q hq (Or.inr (Or.inl e))) (fun q hq => Nat.lt_of_lt_of_le (lB0.out q hq) k1.size)
        · have k2 := Keep.set ((V1.setCell ⟨bb, 0, none⟩ (.int .i64 b1)).setCell ⟨hb, 0, none⟩ (.bool hs1)) gb 0 (.bool true)
          exact ⟨k2.os.trans o1.k.os, k2.tape.trans o1.k.tape, k2.output.trans o1.k.output, Nat.le_trans o1.k.size k2.size, fun q h1 h2 => (k2.block q (by have := o1.k.size; omega) (fun e => nI2.out q (Classical.byContradiction h2) (Or.inr (Or.inl e)))).trans (o1.k.block q h1 h2)⟩
        · exact (k1.then (Keep.set _ gb 0 (.bool true))).more (fun q e => e.elim id (fun e => Or.inr (Or.inl e)))
    intro e a9 V1 hq
    rw [HQ1.out] at hq
    obtain ⟨rfl, hs1, b1, rest1, u13, u14, u15, u16, u17, u18, u19, rfl, ho1, hr1, hz1, hk1⟩ := hq
    clear HQ1 Q1
    show Code.wpIn _ _ _ _ _ _ _
    have O1b := Lib.hid ho1; have HR1 := Lib.hid hr1; have HZ1 := Lib.hid hz1; have KK1 := Lib.hid hk1
    clear ho1 hr1 hz1 hk1
    obtain ⟨Q2, hQ2⟩ : ∃ Q2 : Exit → Act → World → Prop, Q2 = (fun e a9 V2 => e = .normal ∧ V2 = V1 ∧ a9 = { tmps := #[.func (.yield l) #[] #[], .pointer (some ⟨sb, 0, none⟩), .pointer (some ⟨nb, 0, none⟩), .pointer (some ⟨cb, 0, none⟩), .pointer (some ⟨yb, 0, none⟩), .pointer (some ⟨bb, 0, none⟩), .pointer (some ⟨gb, 0, none⟩), .pointer (some ⟨hb, 0, none⟩), .int .i64 x, .int .i64 (-1), .func (.func g) #[] lb, .func (.func g) #[] lb, .int .i64 x, u13, u14, u15, u16, u17, u18, u19, undef, undef, undef, undef, undef, undef, undef, undef, undef, undef, undef, undef, undef, undef, undef, undef, undef, undef, undef, undef], defers := [] }) := ⟨_, rfl⟩
    have HQ2 := Lib.hid hQ2
    clear hQ2
    refine wpIn_seq (wpIn_mono (Q := Q2) ?_ ?_)
    · clear M HBK HLW HRR lowA' lowO nB nI2 rbn ASK lB0 O1b HR1 HZ1 KK1
      gi_wp2
      rw [HQ2.out]
      exact ⟨rfl, rfl, rfl⟩
    intro e a9 V2 hq
    rw [HQ2.out] at hq
    obtain ⟨rfl, rfl, rfl⟩ := hq
    clear HQ2 Q2
    show Code.wpIn _ _ _ _ _ _ _
    have PJ : Hid (jrem bs (prex ++ [x]) = (jrem bs prex).dropWhile (fun b => decide (0 < cmpI x b))) := Lib.hid (jrem_snoc bs prex x)
    have lB1 : Hid (Low Bk V2) := Lib.hid (fun q hq => Nat.lt_of_lt_of_le (lB0.out q hq) KK1.out.size)
    obtain ⟨Q3, hQ3⟩ : ∃ Q3 : Exit → Act → World → Prop, Q3 = (fun e a9 V3 => e = .normal ∧ ∃ ov hs2 b2 rest2 u20 u21 u22 u23 u24 u25 u26 u27 u28 u29 u30 u31, a9 = { tmps := #[.func (.yield l) #[] #[], .pointer (some ⟨sb, 0, none⟩), .pointer (some ⟨nb, 0, none⟩), .pointer (some ⟨cb, 0, none⟩), .pointer (some ⟨yb, 0, none⟩), .pointer (some ⟨bb, 0, none⟩), .pointer (some ⟨gb, 0, none⟩), .pointer (some ⟨hb, 0, none⟩), .int .i64 x, .int .i64 ov, .func (.func g) #[] lb, .func (.func g) #[] lb, .int .i64 x, u13, u14, u15, u16, u17, u18, u19, u20, u21, u22, u23, u24, u25, u26, u27, u28, u29, u30, u31, undef, undef, undef, undef, undef, undef, undef, undef], defers := [] } ∧ JO l yb bb gb hb It2 Bk rb w true hs2 b2 rest2 V3 ∧ (jrem bs (prex ++ [x]) = jhand hs2 b2 rest2) ∧ (hs2 = false → rest2 = []) ∧ jov ov hs2 x b2 ∧ Keep (fun k => k = bb ∨ k = gb ∨ k = hb ∨ k = rb) V2 V3) := ⟨_, rfl⟩
    have HQ3 := Lib.hid hQ3
    clear hQ3
    refine wpIn_seq (wpIn_mono (Q := Q3) ?_ ?_)
    · refine wpIn_block ?_
      dsimp only
      gi_loopw [9] (fun ovv wr => ∃ ov hs2 b2 rest2, ovv = .int .i64 ov ∧ ov ≠ 0 ∧ JO l yb bb gb hb It2 Bk rb w true hs2 b2 rest2 wr ∧ ((jhand hs2 b2 rest2).dropWhile (fun b => decide (0 < cmpI x b)) = jrem bs (prex ++ [x])) ∧ (hs2 = false → rest2 = []) ∧ Keep (fun k => k = bb ∨ k = gb ∨ k = hb ∨ k = rb) V2 wr) (fun _ wr => mW rb hb wr)
      case atStart => exact ⟨-1, hs1, b1, rest1, rfl, by decide, O1b.out, by rw [PJ.out, HR1.out], HZ1.out, Keep.refl _ _⟩
      case round =>
        obtain ⟨ov, hs2, b2, rest2, rfl, hov, ho2, hd2, hz2, hk2⟩ := hrel
        have ch := ho2.h.cell 0
        have O2 := Lib.hid ho2; have HD2 := Lib.hid hd2; have HZ2 := Lib.hid hz2; have KK2 := Lib.hid hk2
        clear hd2 hz2 hk2
        cases hh : hs2 with
        | false =>
          rw [hh] at ch
          have FIN : Hid (JO l yb bb gb hb It2 Bk rb w true hs2 b2 rest2 wr ∧ (jrem bs (prex ++ [x]) = jhand hs2 b2 rest2) ∧ (hs2 = false → rest2 = []) ∧ jov ov hs2 x b2 ∧ Keep (fun k => k = bb ∨ k = gb ∨ k = hb ∨ k = rb) V2 wr) := Lib.hid ⟨ho2, by rw [← HD2.out, hh]; rfl, HZ2.out, ⟨fun h => absurd h hov, fun h => by rw [hh] at h; cases h.1⟩, KK2.out⟩
          clear ho2 hh O2 HD2 HZ2 KK2
          gi_wp2
          rw [HQ3.out]
          exact ⟨rfl, ov, hs2, b2, rest2, _, _, _, _, _, _, _, _, _, _, _, _, rfl, FIN.out⟩
        | true =>
          rw [hh] at ch O2 HD2 HZ2
          have cc2 : wr.cell? ⟨cb, 0, none⟩ = some (.func (.func 32) #[] #[]) := (HCB.out.keepF ho2.k (fun h => h i2c)).cell 0
          have cb2 := ho2.b.cell 0
          have lB2 : Hid (Low Bk wr) := Lib.hid (fun q hq => Nat.lt_of_lt_of_le (lB1.out q hq) KK2.out.size)
          have BE := Lib.hid (below_any x b2 wr)
          have cn : wr.cell? ⟨nb, 0, none⟩ = some (.func (.func 56) #[] #[.pointer (some ⟨rb, 0, none⟩)]) := (HNB.out.keepF ho2.k (fun h => h i2n)).cell 0
          obtain ⟨o2, ho2e⟩ : ∃ o2, cmpI x b2 = o2 := ⟨_, rfl⟩
          rw [ho2e] at BE
          have HOE := Lib.hid ho2e
          clear ho2 hh ho2e
          gi_wp2_with fail
          refine ⟨trivial, (CallsIn.inRound l2 (callsIn_wide.2 BE.out)).mono ?_⟩
          rintro e w' ⟨rfl, rfl⟩
          by_cases hle : o2 ≤ 0
          · have i1 : decide (o2 ≤ 0) = true := by rw [decide_eq_true_eq]; exact hle
            have FIN : Hid (JO l yb bb gb hb It2 Bk rb w true true b2 rest2 w' ∧ (jrem bs (prex ++ [x]) = jhand true b2 rest2) ∧ (true = false → rest2 = []) ∧ jov o2 true x b2 ∧ Keep (fun k => k = bb ∨ k = gb ∨ k = hb ∨ k = rb) V2 w') := Lib.hid ⟨O2.out, by
                have h := HD2.out
                rw [show jhand true b2 rest2 = b2 :: rest2 from rfl, jdrop_stop (by rw [HOE.out]; exact hle)] at h
                exact h.symm, fun h => Bool.noConfusion h, ⟨fun h => ⟨rfl, HOE.out.trans h⟩, fun h => HOE.out.symm.trans h.2⟩, KK2.out⟩
            clear BE cn cc2 O2 HD2 HZ2 KK2
            gi_wp2
            rw [HQ3.out]
            exact ⟨rfl, o2, true, b2, rest2, _, _, _, _, _, _, _, _, _, _, _, _, rfl, FIN.out⟩
          · have i1 : decide (o2 ≤ 0) = false := by rw [decide_eq_false_iff_not]; exact hle
            have CN := Lib.hid (cursor_next Bk rb rest2 w' O2.out.c HRB.out lB2.out)
            have HLE := Lib.hid hle
            clear BE hle
            gi_wp2_with fail
            refine ⟨trivial, (CallsIn.inRound l2 (callsIn_wide.2 CN.out)).mono ?_⟩
            rintro e V4 hce
            obtain ⟨b3, hs3, rest3, rfl, hr3, hz3, cc, kk⟩ := CurE.form hce O2.out.c
            have n := NE.out.1; have r := rbn.out
            have wb := (O2.out.b.keepF kk (fun e => r.2.1 e.symm)); have wh := (O2.out.h.keepF kk (fun e => r.2.2.2 e.symm))
            have zb := wb.frozen 0
            have xb := wb.cell 0
            have xh := (wh.far (fun e => n.2.2.2.2.1 e.symm) (.int .i64 b3) (k := 0)).cell 0
            have zh := (wh.far (fun e => n.2.2.2.2.1 e.symm) (.int .i64 b3) (k := 0)).frozen 0
            have AS := Lib.hid (ASK.out true true true hs3 b2 b3 rest2 rest3 w' V4 lB2.out O2.out cc kk)
            have HR3 := Lib.hid hr3; have HZ3 := Lib.hid hz3
            clear hce hr3 hz3 cc kk CN n r wb wh ch cb2 cc2 cn
            gi_wp2
            go_roundw
            case rel =>
              obtain ⟨o4, k4⟩ := AS.out
              refine ⟨o2, hs3, b3, rest3, rfl, fun h => (by have := HLE.out; omega), o4, ?_, HZ3.out, (KK2.out.then k4).more (fun q e => e.elim id id)⟩
              have h := HD2.out
              rw [show jhand true b2 rest2 = b2 :: rest2 from rfl, jdrop_go (by rw [HOE.out]; have := HLE.out; omega), HR3.out] at h
              exact h
            case measure =>
              obtain ⟨o4, k4⟩ := AS.out
              rw [o4.mw, O2.out.mw, HR3.out]
              cases hs3 with
              | true => simp [jhand]
              | false => rw [HZ3.out rfl]; simp [jhand]
    intro e a9 V3 hq
    rw [HQ3.out] at hq
    obtain ⟨rfl, ov, hs2, b2, rest2, u20, u21, u22, u23, u24, u25, u26, u27, u28, u29, u30, u31, rfl, ho3, hr3, hz3, hov, hk3⟩ := hq
    clear HQ3 Q3
    show Code.wpIn _ _ _ _ _ _ _
    have VD := Lib.hid (Keep.drew (fun _ => False) V3)
    have KV3 : Hid (Keep (fun k => k = bb ∨ k = gb ∨ k = hb ∨ k = rb) V V3) := Lib.hid ((KK1.out.then hk3).more (fun q e => e.elim id id))
    have O3 := Lib.hid ho3; have HR3 := Lib.hid hr3; have HZ3 := Lib.hid hz3; have HOV := Lib.hid hov
    have JF : Hid (jfind bs prex x = if ov = 0 then some b2 else none) := Lib.hid (by
      unfold jfind
      rw [hr3]
      cases hs2 with
      | false => rw [if_neg (fun h => by cases (hov.1 h).1)]; rfl
      | true =>
        show (if cmpI x b2 = 0 then some b2 else none) = _
        by_cases h0 : ov = 0
        · rw [if_pos h0, if_pos (hov.1 h0).2]
        · rw [if_neg h0, if_neg (fun h => h0 (hov.2 ⟨rfl, h⟩))])
    have YQ : Hid (∀ V4 (p : Option Addr), Below V3.drew.heap.size V3.drew V4 → (ov ≠ 0 → p = none) → (ov = 0 → ∃ q, p = some ⟨q, 0, none⟩ ∧ V3.drew.heap.size ≤ q ∧ Arr V4 q 3 [.int .i64 b2]) →
        Yld Try.prog l #[.int .i64 x, .pointer p] V4 fun e V5 => ∃ bq, e = .returned (.bool bq) ∧ ∃ A3, Left A2 (fx x) V V5 A3 ∧ (∀ q, Bk q → V5.heap[q]? = w9.heap[q]?) ∧ ((bq = true ∧ MidM l yb bb gb hb It2 Bk rb w bs A W J (prex ++ [x]) A3 V5) ∨ (bq = false ∧ MidM l yb bb gb hb It2 Bk rb w bs A W Jx (prex ++ [x]) A3 V5))) := Lib.hid (fun V4 p bb4 hp0 hp1 => by
      have k34 : Keep (fun _ => False) V3 V4 := (VD.out.then (Keep.of_below (F := fun _ => False) bb4)).more (fun q e => e.elim id id)
      have kV4 : Keep (fun k => k = bb ∨ k = gb ∨ k = hb ∨ k = rb) V V4 := (KV3.out.then k34).more (fun q e => e.elim id False.elim)
      have own4 : ∀ q, (q = bb ∨ q = gb ∨ q = hb ∨ q = rb) → JOf yb bb gb hb It2 Bk rb q := fun q h => by
        rcases h with h | h | h | h
        · exact Or.inr (Or.inl h)
        · exact Or.inr (Or.inr (Or.inl h))
        · exact Or.inr (Or.inr (Or.inr (Or.inl h)))
        · exact Or.inr (Or.inr (Or.inr (Or.inr (Or.inr (Or.inl h)))))
      have pN : ∀ q, Of p q → V.heap.size ≤ q ∧ q < V4.heap.size := fun q h => by
        obtain ⟨a, ha, rfl⟩ := h
        by_cases h0 : ov = 0
        · obtain ⟨q, e, h1, h2⟩ := hp1 h0
          rw [e] at ha; injection ha with ha; subst ha
          have h1 : V3.heap.size ≤ q := h1
          have := KV3.out.size
          exact ⟨by show V.heap.size ≤ q; omega, Arr.lt h2⟩
        · rw [hp0 h0] at ha; cases ha
      have jp : JpAt bs (ys.map Jp.a) V4 ⟨x, p⟩ := by
        unfold JpAt
        rw [M.out.m]
        show (match jfind bs prex x with | none => p = none | some b => _)
        rw [JF.out]
        by_cases h0 : ov = 0
        · rw [if_pos h0]
          obtain ⟨q, e, h1, h2⟩ := hp1 h0
          exact ⟨q, e, h2⟩
        · rw [if_neg h0]; exact hp0 h0
      have hV4 : w9.heap.size ≤ V4.heap.size := Nat.le_trans hsz kV4.size
      refine Yld.mono (HY.out ys ⟨x, p⟩ A' V4 (HJ.out.at M.out.j kV4 (fun q h hA => (M.out.out q hA).1 (own4 q h))) (fun q hq => Nat.lt_of_lt_of_le (lowA'.out q hq) kV4.size) (by omega) ⟨by rw [M.out.m]; exact HRS.out _ _ _ _ _ HRR.out kV4 (fun q h hi => OI.out q hi (own4 q h)), jp⟩ (fun q hq => (pN q hq).2) (fun q hq => ⟨fun h => by have := lowA'.out q h; have := (pN q hq).1; omega, by have := (pN q hq).1; omega⟩)) ?_
      rintro e V5 ⟨A5, l5, hend⟩
      have nO : ∀ q, JOf yb bb gb hb It2 Bk rb q → q < V4.heap.size ∧ ¬ A' q ∧ ¬ Of p q := fun q h => ⟨Nat.lt_of_lt_of_le (lowO.out q h) kV4.size, fun hA => (M.out.out q hA).1 h, fun hp => by have := (pN q hp).1; have := lowO.out q h; omega⟩
      have k45 : ∀ q, JOf yb bb gb hb It2 Bk rb q → V5.heap[q]? = V4.heap[q]? := fun q h => l5.keep.block q (nO q h).1 (fun e => e.elim (nO q h).2.1 (nO q h).2.2)
      have o5 : JO l yb bb gb hb It2 Bk rb w true hs2 b2 rest2 V5 := (O3.out.keep k34 (fun _ h => h.elim) (fun q hq => Nat.lt_of_lt_of_le (lB0.out q hq) KV3.out.size)).keep (F := fun k => A' k ∨ Of p k) l5.keep (fun q e h => e.elim (nO q h).2.1 (nO q h).2.2) (fun q hq => Nat.lt_of_lt_of_le (lB0.out q hq) kV4.size)
      have low5 : Low A5 V5 := l5.low
      have sub5 : ∀ q, A5 q → ¬ JOf yb bb gb hb It2 Bk rb q ∧ (A q ∨ W.heap.size ≤ q) := fun q hq => ⟨fun h => by rcases l5.sub q hq with e | e | e; exact (nO q h).2.1 e; exact (nO q h).2.2 e; (have := (nO q h).1; omega), by
        rcases l5.sub q hq with e | e | e
        · exact (M.out.out q e).2
        · have := (pN q e).1; exact Or.inr (by omega)
        · exact Or.inr (by omega)⟩
      have bk5 : ∀ q, Bk q → V5.heap[q]? = w9.heap[q]? := fun q hq => (k45 q (Or.inr (Or.inr (Or.inr (Or.inr (Or.inr (Or.inr hq))))))).trans ((kV4.block q (lB0.out q hq) (nB.out q hq)).trans (HBK.out q hq))
      have left5 : Left A2 (fx x) V V5 (fun k => A5 k ∨ JOf yb bb gb hb It2 Bk rb k) := by
        have s45 := l5.keep.size
        have sV4 := kV4.size
        refine ⟨⟨l5.keep.os.trans kV4.os, l5.keep.tape.trans kV4.tape, l5.keep.output.trans kV4.output, Nat.le_trans sV4 s45, fun q h1 h2 => ?_⟩, fun q hq => ?_, fun q hq => ?_⟩
        · refine (l5.keep.block q (by omega) (fun e => ?_)).trans (kV4.block q h1 (fun e => h2 (Or.inl ((M.out.eq q).2 (Or.inr (own4 q e))))))
          rcases e with e | e
          · exact h2 (Or.inl ((M.out.eq q).2 (Or.inl e)))
          · have := (pN q e).1; omega
        · rcases hq with e | e
          · exact low5 q e
          · exact Nat.lt_of_lt_of_le (nO q e).1 s45
        · rcases hq with e | e
          · rcases l5.sub q e with e | e | e
            · exact Or.inl ((M.out.eq q).2 (Or.inl e))
            · exact Or.inr (Or.inr (pN q e).1)
            · exact Or.inr (Or.inr (by omega))
          · exact Or.inl ((M.out.eq q).2 (Or.inr e))
      have mid : ∀ Jj : List Jp → (Nat → Prop) → World → Prop, Jj (ys ++ [⟨x, p⟩]) A5 V5 → MidM l yb bb gb hb It2 Bk rb w bs A W Jj (prex ++ [x]) (fun k => A5 k ∨ JOf yb bb gb hb It2 Bk rb k) V5 := fun Jj hj => ⟨A5, ys ++ [⟨x, p⟩], true, hs2, b2, rest2, fun k => Iff.rfl, sub5, hj, by rw [List.map_append, M.out.m]; rfl, o5, ⟨fun h => Bool.noConfusion h, fun _ => HR3.out, fun _ => HZ3.out⟩, fun q hq => Nat.lt_of_lt_of_le (lB0.out q hq) (Nat.le_trans kV4.size l5.keep.size)⟩
      rcases hend with ⟨rfl, h⟩ | ⟨rfl, h⟩
      · exact ⟨true, rfl, _, left5, bk5, Or.inl ⟨rfl, mid J h⟩⟩
      · exact ⟨false, rfl, _, left5, bk5, Or.inr ⟨rfl, mid Jx h⟩⟩)
    obtain ⟨Q4, hQ4⟩ : ∃ Q4 : Exit → Act → World → Prop, Q4 = (fun e a9 V5 => e = .normal ∧ ∃ bq u32 u33 u34 u35 u36 u37 u38, a9 = { tmps := #[.func (.yield l) #[] #[], .pointer (some ⟨sb, 0, none⟩), .pointer (some ⟨nb, 0, none⟩), .pointer (some ⟨cb, 0, none⟩), .pointer (some ⟨yb, 0, none⟩), .pointer (some ⟨bb, 0, none⟩), .pointer (some ⟨gb, 0, none⟩), .pointer (some ⟨hb, 0, none⟩), .int .i64 x, .int .i64 ov, .func (.func g) #[] lb, .func (.func g) #[] lb, .int .i64 x, u13, u14, u15, u16, u17, u18, u19, u20, u21, u22, u23, u24, u25, u26, u27, u28, u29, u30, u31, u32, u33, u34, u35, u36, u37, u38, .bool (!bq)], defers := [] } ∧ ∃ A3, Left A2 (fx x) V V5 A3 ∧ (∀ q, Bk q → V5.heap[q]? = w9.heap[q]?) ∧ ((bq = true ∧ MidM l yb bb gb hb It2 Bk rb w bs A W J (prex ++ [x]) A3 V5) ∨ (bq = false ∧ MidM l yb bb gb hb It2 Bk rb w bs A W Jx (prex ++ [x]) A3 V5))) := ⟨_, rfl⟩
    have HQ4 := Lib.hid hQ4
    clear hQ4
    refine wpIn_seq (wpIn_mono (Q := Q4) ?_ ?_)
    · have hmx : Try.prog.follows .mixedOrders = true := by kernel_rfl
      have cy := ho3.y.cell 0
      have cbb := ho3.b.cell 0
      have hyl := Arr.lt ho3.y
      have CP := Lib.hid (fun f => copyif_any f b2 V3.drew)
      clear HSQ HY HJ HJX HLO H0 HRP HRS LI HS HNB HCB HRB ON KW2 KW0 IT2 IEQ d3 dO dR CU LBK B1 K1 KW21 O1 NE WYS OO OI J0 KFIN M HBK HLW HRR lowA' lowO nB nI2 rbn ASK lB0 O1b HR1 HZ1 KK1 PJ lB1 VD KV3 O3 HR3 HZ3 HOV JF ho3 hr3 hz3 hov hk3
      gi_wp2
      gi_region_with_o (first
        | (refine ⟨trivial, (CallsIn.inRound l2 (callsIn_wide.2 (CP.out _))).mono ?_⟩; rintro e V4 ⟨p, rfl, q1, q2, b4⟩; obtain ⟨fn, tmps, assign, body, hy, hR⟩ := YQ.out V4 p b4 (fun h => q1 (by simp [h])) (fun h => q2 (by simp [h])) 0; have HRX := Lib.hid hR; have cy4 := (b4.cell (p := ⟨yb, 0, none⟩) hyl).trans cy; clear b4 hR q1 q2)
        | (refine ⟨trivial, (round_any HRX.out).mono ?_⟩; rintro e V5 hp; have HP := Lib.hid hp; obtain ⟨bq, rfl, -⟩ := hp; clear hy HRX)
        | (refine (round_any HRX.out).mono ?_; rintro e V5 hp; obtain ⟨bq, rfl, hpp⟩ := hp; have HP := Lib.hid hpp; clear hy HRX hpp))
      all_goals (rw [HQ4.out]; exact ⟨rfl, _, _, _, _, _, _, _, _, rfl, HP.out⟩)
    intro e a9 V5 hq
    rw [HQ4.out] at hq
    obtain ⟨rfl, bq, u32, u33, u34, u35, u36, u37, u38, rfl, A3, l3, hb5, hend⟩ := hq
    clear HQ4 Q4
    show Code.wpIn _ _ _ _ _ _ _
    have L3 := Lib.hid l3; have HB5 := Lib.hid hb5
    clear M HBK HLW HRR lowA' lowO nB nI2 rbn ASK lB0 O1b HR1 HZ1 KK1 PJ lB1 VD KV3 O3 HR3 HZ3 HOV JF ho3 hr3 hz3 hov hk3 YQ l3 hb5
    rcases hend with ⟨rfl, hm⟩ | ⟨rfl, hm⟩
    · have HM := Lib.hid hm
      clear hm
      gi_wp2
      exact ⟨A3, L3.out, HM.out, HB5.out⟩
    · have HM := Lib.hid hm
      clear hm
      gi_wp2
      exact ⟨A3, L3.out, rfl, HM.out, HB5.out⟩
  case done =>
    rintro D xs A2 V hD hS ⟨⟨A', ys, bg, hs, b, rest, m⟩, hbk⟩ hlow hnt hkp hK
    have kD := Keep.putObj V D (.deferred none)
    have hDV : D < V.heap.size := (Array.getElem?_eq_some_iff.1 hK).1
    have FIN : Hid (Keep (fun k => A k ∨ Mt k ∨ k = rb) W (V.putObj D (.deferred none)) ∧ ∃ A', Low A' (V.putObj D (.deferred none)) ∧ (∀ k, A' k → ¬ (It k ∨ (k = sb ∨ k = nb ∨ k = cb) ∨ k = rb ∨ Bk k) ∧ (A k ∨ W.heap.size ≤ k)) ∧ ((∃ ys, S (ys.map Jp.a) (V.putObj D (.deferred none)) ∧ J ys A' (V.putObj D (.deferred none))) ∨ ∃ ys, Sp (ys.map Jp.a) (V.putObj D (.deferred none)) ∧ Jx ys A' (V.putObj D (.deferred none)))) := Lib.hid (by
      have k1 := KFIN.out V hkp m.o.k hbk
      refine ⟨⟨kD.os.trans k1.os, kD.tape.trans k1.tape, kD.output.trans k1.output, Nat.le_trans k1.size kD.size, fun q h1 h2 => (kD.block q (by have := k1.size; omega) (by omega)).trans (k1.block q h1 h2)⟩, A', fun q hq => by simpa using hlow q ((m.eq q).2 (Or.inl hq)), fun k hk => ⟨fun e => ?_, (m.out k hk).2⟩, Or.inl ⟨ys, ?_, HJ.out.at m.j kD (fun q e h => (hnt _ ((m.eq _).2 (Or.inl h))).2 e)⟩⟩
      · rcases (IEQ.out k).1 e with h | h
        · exact (hnt k ((m.eq k).2 (Or.inl hk))).1 h
        · exact (m.out k hk).1 (Or.inr (Or.inr (Or.inr (Or.inr h))))
      · rw [m.m]; exact HSQ.out.sstab _ _ _ _ hS kD (fun k e h => by subst e; have := LI.out _ h; omega))
    have HK := Lib.hid hK
    clear hS m hbk hlow hnt hkp hK kD
    gi_wp2
    refine ⟨by simp, .inl ⟨_, _, rfl, run_takeDeferred HK.out, ?_⟩⟩
    exact ⟨_, results_none rfl _ _ _, ⟨_, rfl⟩, FIN.out⟩
  case stop =>
    rintro D cc xs A2 V hD hS ⟨rfl, ⟨A', ys, bg, hs, b, rest, m⟩, hbk⟩ hlow hnt hkp hK
    have kD := Keep.putObj V D (.deferred none)
    have hDV : D < V.heap.size := (Array.getElem?_eq_some_iff.1 hK).1
    have FIN : Hid (Keep (fun k => A k ∨ Mt k ∨ k = rb) W (V.putObj D (.deferred none)) ∧ ∃ A', Low A' (V.putObj D (.deferred none)) ∧ (∀ k, A' k → ¬ (It k ∨ (k = sb ∨ k = nb ∨ k = cb) ∨ k = rb ∨ Bk k) ∧ (A k ∨ W.heap.size ≤ k)) ∧ ((∃ ys, S (ys.map Jp.a) (V.putObj D (.deferred none)) ∧ J ys A' (V.putObj D (.deferred none))) ∨ ∃ ys, Sp (ys.map Jp.a) (V.putObj D (.deferred none)) ∧ Jx ys A' (V.putObj D (.deferred none)))) := Lib.hid (by
      have k1 := KFIN.out V hkp m.o.k hbk
      refine ⟨⟨kD.os.trans k1.os, kD.tape.trans k1.tape, kD.output.trans k1.output, Nat.le_trans k1.size kD.size, fun q h1 h2 => (kD.block q (by have := k1.size; omega) (by omega)).trans (k1.block q h1 h2)⟩, A', fun q hq => by simpa using hlow q ((m.eq q).2 (Or.inl hq)), fun k hk => ⟨fun e => ?_, (m.out k hk).2⟩, Or.inr ⟨ys, ?_, HJX.out.at m.j kD (fun q e h => (hnt _ ((m.eq _).2 (Or.inl h))).2 e)⟩⟩
      · rcases (IEQ.out k).1 e with h | h
        · exact (hnt k ((m.eq k).2 (Or.inl hk))).1 h
        · exact (m.out k hk).1 (Or.inr (Or.inr (Or.inr (Or.inr h))))
      · rw [m.m]; exact HSQ.out.pstab _ _ _ _ hS kD (fun k e h => by subst e; have := LI.out _ h; omega))
    have HK := Lib.hid hK
    clear hS m hbk hlow hnt hkp hK kD
    gi_wp2
    refine ⟨by simp, .inl ⟨_, _, rfl, run_takeDeferred HK.out, ?_⟩⟩
    exact ⟨_, results_none rfl _ _ _, ⟨_, rfl⟩, FIN.out⟩
end Go.Proofs.Ytjjkddahfmkhoaa
