/-
  Sequences of ints over one another, told by what they list; the functions that FlowChain hands over.
-/
import Derived.Test.YtjjkddahfmkhoaaGf
import Derived.Test.YtjjkddahfmkhoaaGg
import Derived.Test.YtjjkddahfmkhoaaGd
import Derived.Test.YtjjkddahfmkhoaaGe
import Derived.Test.YtjjkddahfmkhoaaGj
import Derived.Test.YtjjkddahfmkhoaaGn
namespace Go.Proofs.Ytjjkddahfmkhoaa
set_option linter.unusedVariables false
set_option linter.unusedSimpArgs false
set_option maxRecDepth 100000
open Go.RowKit Go.Shelf
attribute [local go_sem] Oper.semAt_some

theorem SeqF.weaken {α : Type} {P : Program} {g : Nat} {lb : Array Value} {encs : α → Array Value} {fx : α → Nat → Prop} {R R' : List α → α → World → Prop} {S S' Sp Sp' : List α → World → Prop} {It Mt Mt' : Nat → Prop} {w : World} (h : SeqF P g lb encs fx R S Sp It Mt w)
    (hR : ∀ pre x W, R pre x W → R' pre x W) (hS : ∀ xs W, S xs W → S' xs W) (hP : ∀ xs W, Sp xs W → Sp' xs W) (hM : ∀ k, Mt k → Mt' k) (hM2 : ∀ k, Mt' k → It k)
    (r : ∀ pre x W W' F, R' pre x W → Keep F W W' → (∀ k, F k → ¬ fx x k ∧ ¬ It k) → R' pre x W') (s : ∀ xs W W' F, S' xs W → Keep F W W' → (∀ k, F k → ¬ It k) → S' xs W') (p : ∀ xs W W' F, Sp' xs W → Keep F W W' → (∀ k, F k → ¬ It k) → Sp' xs W') :
    SeqF P g lb encs fx R' S' Sp' It Mt' w :=
  ⟨h.low, hM2, r, s, p, fun l J Jx A W hW hJ hJx hd hl hY h0 => (h.run l J Jx A W hW hJ hJx hd hl (fun pre x A W1 a b c d e f => hY pre x A W1 a b c (hR _ _ _ d) e f) h0).mono (fun e W' ⟨h1, h2, A', h3, h4, h5⟩ => ⟨h1, h2.more (fun q e => e.elim Or.inl (fun e => Or.inr (hM q e))), A', h3, h4, h5.elim (fun ⟨xs, a, b⟩ => Or.inl ⟨xs, hS _ _ a, b⟩) (fun ⟨xs, a, b⟩ => Or.inr ⟨xs, hP _ _ a, b⟩)⟩)⟩
/-- An iterator that lists xs. -/
def LS (g : Nat) (lb : Array Value) (It : Nat → Prop) (w : World) (xs : List Int) : Prop := SeqF Try.prog g lb (fun x : Int => #[Value.int .i64 x]) (fun _ _ => False) (fun pre _ _ => pre.length ≤ 50) (AllI xs) (fun _ _ => True) It NoB w
def EN (g : Nat) : Prop := ∀ args w, (callFunc g args).run Try.prog w = .ok (.enter g args) w
theorem LS.later {g : Nat} {lb : Array Value} {It : Nat → Prop} {w w' : World} {xs : List Int} (h : LS g lb It w xs) (b : Below w.heap.size w w') : LS g lb It w' xs :=
  ⟨fun k hk => Nat.lt_of_lt_of_le (h.low k hk) b.size, h.mt, h.rstab, h.sstab, h.pstab, fun l J Jx A W hW => h.run l J Jx A W (((Keep.of_below (F := fun _ => False) b).then hW).more (fun q e => e.elim False.elim id))⟩
theorem ls_from (b : Nat) (A : Option Addr) (n c : Nat) (xs : List Int) (w : World) (hb : Arr w b 24 [.slice A n c]) (hr : RowA w 3 A c (fv xs)) (hl : xs.length = n) (hn : n ≤ 50) : LS 46 #[.pointer (some ⟨b, 0, none⟩)] (FromB b A) w xs := by
  refine SeqF.weaken (from_seq b A n c xs w hb hr hl (by omega)) (fun pre x W h => ?_) (fun _ _ h => h) (fun _ _ _ => trivial) (fun _ h => h) (fun _ h => h.elim) (fun _ _ _ _ _ h _ _ => h) (fun _ _ _ _ h _ _ => h) (fun _ _ _ _ _ _ _ => trivial)
  obtain ⟨post, h⟩ := h
  have h := congrArg List.length h
  rw [hl] at h
  simp at h
  omega
theorem LS.map {g : Nat} {lb : Array Value} {It : Nat → Prop} {w : World} {xs : List Int} (h : LS g lb It w xs) (eg : EN g) (F : Int → Int) {gf : Nat} {lf : Array Value} (ef : EN gf) (ItF : Nat → Prop) (hItF : Low ItF w) (hf : ∀ x W, Keep (fun k => ¬ ItF k) w W → Calls Try.prog gf (#[.int .i64 x] ++ lf) W fun e w' => e = .returned (.int .i64 (F x)) ∧ Below W.heap.size W w')
    (sb fb : Nat) (hs : Arr w sb 29 [.func (.func g) #[] lb]) (hfb : Arr w fb 52 [.func (.func gf) #[] lf]) (d1 : ∀ k, It k → k ≠ sb ∧ k ≠ fb ∧ ¬ ItF k) :
    LS 54 #[.pointer (some ⟨sb, 0, none⟩), .pointer (some ⟨fb, 0, none⟩)] (fun k => It k ∨ k = sb ∨ k = fb ∨ ItF k) w (xs.map F) := by
  refine SeqF.weaken (mapseq_II (fun x : Int => Value.int .i64 x) (fun x : Int => Value.int .i64 x) F h w (Keep.refl _ _) eg (Rp := fun pre _ _ => pre.length ≤ 50) (fun _ _ _ h => h) (fun _ _ _ _ _ h _ _ => h) ef ItF hItF (fun _ x W _ k => hf x W k) sb fb hs hfb d1) (fun pre x W h => ?_) (fun ys W h => ?_) (fun _ _ _ => trivial) (fun _ h => h) (fun _ h => h.elim) (fun _ _ _ _ _ h _ _ => h) (fun _ _ _ _ h _ _ => h) (fun _ _ _ _ _ _ _ => trivial)
  · obtain ⟨prex, y, rfl, _, h⟩ := h
    rw [List.length_map]; exact h
  · obtain ⟨zs, rfl, h⟩ := h
    have h : zs = xs := h
    rw [h]; rfl
theorem LS.keep {g : Nat} {lb : Array Value} {It : Nat → Prop} {w : World} {xs : List Int} (h : LS g lb It w xs) (eg : EN g) (F : Int → Bool) {gf : Nat} {lf : Array Value} (ef : EN gf) (ItF : Nat → Prop) (hItF : Low ItF w) (hf : ∀ x W, Keep (fun k => ¬ ItF k) w W → Calls Try.prog gf (#[.int .i64 x] ++ lf) W fun e w' => e = .returned (.bool (F x)) ∧ Below W.heap.size W w')
    (sb fb : Nat) (hs : Arr w sb 29 [.func (.func g) #[] lb]) (hfb : Arr w fb 45 [.func (.func gf) #[] lf]) (d1 : ∀ k, It k → k ≠ sb ∧ k ≠ fb ∧ ¬ ItF k) :
    LS 51 #[.pointer (some ⟨sb, 0, none⟩), .pointer (some ⟨fb, 0, none⟩)] (fun k => It k ∨ k = sb ∨ k = fb ∨ ItF k) w (xs.filter F) := by
  refine SeqF.weaken (keepseq_I (fun x : Int => Value.int .i64 x) F h w (Keep.refl _ _) eg (Rp := fun pre _ _ => pre.length ≤ 50) (fun _ _ _ h => h) (fun _ _ _ _ _ h _ _ => h) ef ItF hItF (fun _ x W _ k => hf x W k) sb fb hs hfb d1) (fun pre x W h => ?_) (fun ys W h => ?_) (fun _ _ _ => trivial) (fun _ h => h) (fun _ h => h.elim) (fun _ _ _ _ _ h _ _ => h) (fun _ _ _ _ h _ _ => h) (fun _ _ _ _ _ _ _ => trivial)
  · obtain ⟨prex, rfl, _, h⟩ := h
    have := List.length_filter_le F prex
    show (prex.filter F).length ≤ 50
    omega
  · obtain ⟨zs, rfl, h⟩ := h
    have h : zs = xs := h
    rw [h]; rfl
theorem gst_len1 (sm : Int → Int → Bool) (zs : List Int) : (gst sm zs).1.length ≤ zs.length := snoc_ind (p := fun zs => (gst sm zs).1.length ≤ zs.length) (Nat.le_refl _) (fun zs x ih => by
  show (gst sm (zs ++ [x])).1.length ≤ (zs ++ [x]).length
  rw [List.length_append]
  cases hc : (gst sm zs).2 with
  | nil => rw [gst_nil x hc]; show (gst sm zs).1.length ≤ _; simp; omega
  | cons a r =>
    cases hsm : sm a x with
    | true => rw [gst_same hc hsm]; show (gst sm zs).1.length ≤ _; simp; omega
    | false => rw [gst_next hc hsm]; show ((gst sm zs).1 ++ [_]).length ≤ _; rw [List.length_append]; simp; omega) zs
/-- How long the groups are. -/
theorem LS.glen {g : Nat} {lb : Array Value} {It : Nat → Prop} {w w2 : World} {xs : List Int} (h : LS g lb It w xs) (hx : xs.length ≤ 50) (eg : EN g) (sm : Int → Int → Bool) {gf : Nat} (ef : EN gf) (hf : ∀ a x W, Calls Try.prog gf (#[.int .i64 a, .int .i64 x] ++ #[]) W fun e w' => e = .returned (.bool (sm a x)) ∧ ∃ m, w' = W.drewN m)
    (sb fb : Nat) (hs : Arr w sb 29 [.func (.func g) #[] lb]) (hfb : Arr w fb 31 [.func (.func gf) #[] #[]]) (d1 : ∀ k, It k → k ≠ sb ∧ k ≠ fb)
    (b2 : Below w.heap.size w w2) {gl : Nat} (el : EN gl) (hfl : ∀ (A : Option Addr) (n c : Nat) (W : World), Calls Try.prog gl (#[.slice A n c] ++ #[]) W fun e w' => e = .returned (.int .i64 (n : Int)) ∧ Below W.heap.size W w')
    (sb2 fb2 : Nat) (hs2 : Arr w2 sb2 26 [.func (.func 43) #[] #[.pointer (some ⟨sb, 0, none⟩), .pointer (some ⟨fb, 0, none⟩)]]) (hfb2 : Arr w2 fb2 61 [.func (.func gl) #[] #[]]) (n2 : w.heap.size ≤ sb2 ∧ w.heap.size ≤ fb2) :
    ∃ It', LS 61 #[.pointer (some ⟨sb2, 0, none⟩), .pointer (some ⟨fb2, 0, none⟩)] It' w2 ((groups sm xs).map (fun l => (l.length : Int))) := by
  have GS := groupseq sm h w (Keep.refl _ _) eg (Rp := fun pre _ _ => pre.length ≤ 50) (fun _ _ _ h => h) (fun _ _ _ _ _ h _ _ => h) (fun pre x W h => by have h : pre.length ≤ 50 := h; omega) ef (fun _ => False) (fun _ h => h.elim) (fun _ x a W _ _ _ => hf a x W) sb fb hs hfb (fun k hk => ⟨(d1 k hk).1, (d1 k hk).2, id⟩)
  have lowG : ∀ k, (It k ∨ k = sb ∨ k = fb ∨ False) → k < w.heap.size := GS.low
  refine ⟨_, SeqF.weaken (mapseq_RI (fun y : Grp => Value.slice y.A y.n y.c) (fun x : Int => Value.int .i64 x) (fun y => (y.l.length : Int)) GS w2 (Keep.of_below b2) (enters_of Try.func43 (by kernel_rfl) rfl) (Rp := fun pre y _ => pre.length ≤ 50 ∧ y.n = y.l.length) (fun pre y W h => ?_) (fun _ _ _ _ _ h _ _ => h) el (fun _ => False) (fun _ h => h.elim) (fun pre y W h _ => ?_) sb2 fb2 hs2 hfb2 (fun k hk => by have := lowG k hk; exact ⟨by omega, by omega, id⟩)) (fun pre x W h => ?_) (fun ys W h => ?_) (fun _ _ _ => trivial) (fun _ h => h) (fun _ h => h.elim) (fun _ _ _ _ _ h _ _ => h) (fun _ _ _ _ h _ _ => h) (fun _ _ _ _ _ _ _ => trivial)⟩
  · obtain ⟨⟨prex, h1, h2, h3, h4⟩, h5, h6⟩ := h
    refine ⟨?_, h6⟩
    have e2 : pre.length = (gst sm prex).1.length := by rw [← h1, List.length_map]
    have e4 := gst_len1 sm prex
    rcases h4 with ⟨x, h4⟩ | h4
    · have h4 : prex.length ≤ 50 := h4
      omega
    · have h4 : prex = xs := h4
      rw [h4] at e4 e2; omega
  · have := hfl y.A y.n y.c W
    rw [h.2] at this
    rw [h.2]
    exact this
  · obtain ⟨prex, y, rfl, _, h⟩ := h
    rw [List.length_map]; exact h.1
  · obtain ⟨zs, rfl, us, h1, h2⟩ := h
    have h2 : us = xs := h2
    show zs.map _ = _
    rw [← h2, ← h1, List.map_map]
    rfl
theorem LS.list {g : Nat} {lb : Array Value} {It : Nat → Prop} {w : World} {xs : List Int} (h : LS g lb It w xs) (eg : EN g) : Calls Try.prog 17 #[.func (.func g) #[] lb] w fun e w' => ∃ Ar c, e = .returned (.slice Ar xs.length c) ∧ RowA w' 3 Ar c (fv xs) ∧ Below w.heap.size w w' := by
  refine (list_I h w (Keep.refl _ _) eg (fun _ A _ => ∀ k, ¬ A k) (fun _ _ _ _ h _ => h) (fun _ _ h => h) (fun pre x A W h _ _ k hk => hk.elim (h k) id) (fun pre x W h => by have h : pre.length ≤ 50 := h; omega)).mono ?_
  rintro e w' ⟨Ar, c, ys, AG, rfl, h1, ⟨h2, _⟩, _, _, k⟩
  have h1 : ys = xs := h1
  subst h1
  exact ⟨Ar, c, rfl, h2, ⟨k.os, k.tape, k.output, k.size, fun q hq => k.block q hq (fun h => h)⟩⟩
theorem LS.fold {g : Nat} {lb : Array Value} {It : Nat → Prop} {w : World} {xs : List Int} (h : LS g lb It w xs) (eg : EN g) (F : Int → Int → Int) (b0 : Int) {gf : Nat} (ef : EN gf) (hf : ∀ b x W, Calls Try.prog gf (#[.int .i64 b, .int .i64 x] ++ #[]) W fun e w' => e = .returned (.int .i64 (F b x)) ∧ Below W.heap.size W w') :
    Calls Try.prog 23 #[.func (.func g) #[] lb, .int .i64 b0, .func (.func gf) #[] #[]] w fun e w' => e = .returned (.int .i64 (xs.foldl F b0)) ∧ Below w.heap.size w w' := by
  refine (fold_I F h w (Keep.refl _ _) eg ef (fun _ => False) (fun _ h => h.elim) (fun _ _ h => h) b0 (fun pre x W _ _ => hf _ x W)).mono ?_
  rintro e w' ⟨ys, rfl, h1, k⟩
  have h1 : ys = xs := h1
  subst h1
  exact ⟨rfl, ⟨k.os, k.tape, k.output, k.size, fun q hq => k.block q hq (fun h => h)⟩⟩
/-- A call of Map, of Keep. -/
theorem LS.mapc {g : Nat} {lb : Array Value} {It : Nat → Prop} {w : World} {xs : List Int} (h : LS g lb It w xs) (eg : EN g) (F : Int → Int) {gf : Nat} {lf : Array Value} (ef : EN gf) (ItF : Nat → Prop) (hItF : Low ItF w) (hf : ∀ x W, Keep (fun k => ¬ ItF k) w W → Calls Try.prog gf (#[.int .i64 x] ++ lf) W fun e w' => e = .returned (.int .i64 (F x)) ∧ Below W.heap.size W w') (d : ∀ k, It k → ¬ ItF k) :
    Calls Try.prog 25 #[.func (.func g) #[] lb, .func (.func gf) #[] lf] w fun e w' => ∃ sb fb It', e = .returned (.func (.func 54) #[] #[.pointer (some ⟨sb, 0, none⟩), .pointer (some ⟨fb, 0, none⟩)]) ∧ LS 54 #[.pointer (some ⟨sb, 0, none⟩), .pointer (some ⟨fb, 0, none⟩)] It' w' (xs.map F) ∧ (∀ k, It' k → It k ∨ ItF k ∨ w.heap.size ≤ k) ∧ Below w.heap.size w w' := by
  refine (map_II (.func g) #[] lb (.func gf) #[] lf w).mono ?_
  rintro e w' ⟨rfl, ⟨h1, h2⟩, b⟩
  have lowI : ∀ k, It k → k < w.heap.size := h.low
  refine ⟨_, _, _, rfl, (h.later b).map eg F ef ItF (fun k hk => Nat.lt_of_lt_of_le (hItF k hk) b.size) (fun x W k => hf x W (((Keep.of_below (F := fun _ => False) b).then k).more (fun q e => e.elim False.elim id))) _ _ h1 h2 (fun k hk => by have := lowI k hk; exact ⟨by omega, by omega, d k hk⟩), fun k hk => ?_, b⟩
  rcases hk with hk | hk | hk | hk
  · exact Or.inl hk
  · exact Or.inr (Or.inr (by omega))
  · exact Or.inr (Or.inr (by omega))
  · exact Or.inr (Or.inl hk)
theorem LS.keepc {g : Nat} {lb : Array Value} {It : Nat → Prop} {w : World} {xs : List Int} (h : LS g lb It w xs) (eg : EN g) (F : Int → Bool) {gf : Nat} {lf : Array Value} (ef : EN gf) (ItF : Nat → Prop) (hItF : Low ItF w) (hf : ∀ x W, Keep (fun k => ¬ ItF k) w W → Calls Try.prog gf (#[.int .i64 x] ++ lf) W fun e w' => e = .returned (.bool (F x)) ∧ Below W.heap.size W w') (d : ∀ k, It k → ¬ ItF k) :
    Calls Try.prog 21 #[.func (.func g) #[] lb, .func (.func gf) #[] lf] w fun e w' => ∃ sb fb It', e = .returned (.func (.func 51) #[] #[.pointer (some ⟨sb, 0, none⟩), .pointer (some ⟨fb, 0, none⟩)]) ∧ LS 51 #[.pointer (some ⟨sb, 0, none⟩), .pointer (some ⟨fb, 0, none⟩)] It' w' (xs.filter F) ∧ (∀ k, It' k → It k ∨ ItF k ∨ w.heap.size ≤ k) ∧ Below w.heap.size w w' := by
  refine (keep_I (.func g) #[] lb (.func gf) #[] lf w).mono ?_
  rintro e w' ⟨rfl, ⟨h1, h2⟩, b⟩
  have lowI : ∀ k, It k → k < w.heap.size := h.low
  refine ⟨_, _, _, rfl, (h.later b).keep eg F ef ItF (fun k hk => Nat.lt_of_lt_of_le (hItF k hk) b.size) (fun x W k => hf x W (((Keep.of_below (F := fun _ => False) b).then k).more (fun q e => e.elim False.elim id))) _ _ h1 h2 (fun k hk => by have := lowI k hk; exact ⟨by omega, by omega, d k hk⟩), fun k hk => ?_, b⟩
  rcases hk with hk | hk | hk | hk
  · exact Or.inl hk
  · exact Or.inr (Or.inr (by omega))
  · exact Or.inr (Or.inr (by omega))
  · exact Or.inr (Or.inl hk)
/-- The functions that the law hands over. -/
theorem args_one (a b : Value) : (#[a] ++ #[b] : Array Value) = #[a, b] := by simp
theorem args_nil1 (a : Value) : (#[a] ++ #[] : Array Value) = #[a] := by simp
theorem args_nil2 (a b : Value) : (#[a, b] ++ #[] : Array Value) = #[a, b] := by simp
theorem args_three (a b c : Value) : (#[a] ++ #[b, c] : Array Value) = #[a, b, c] := by simp
def xF (m x : Int) : Int := bits BinOp.xor IntKind.i64 x m
def aF (n x : Int) : Int := wrap64 (x + n)
theorem fc1_any (x m : Int) (b : Nat) (w : World) (h : w.cell? ⟨b, 0, none⟩ = some (.int .i64 m)) : Calls Try.prog 33 #[.int .i64 x, .pointer (some ⟨b, 0, none⟩)] w fun e w' => e = .returned (.int .i64 (xF m x)) ∧ w' = w := by
  obtain ⟨r, hr⟩ : ∃ r, bits BinOp.xor IntKind.i64 x m = r := ⟨_, rfl⟩
  unfold xF
  go_enter Try.func33, Try.ntmps33
  go_wp2
  go_ret
  first | exact ⟨rfl, rfl⟩ | (rw [hr]; exact ⟨rfl, rfl⟩) | (simp [hr])
theorem fc2_any (x n : Int) (b : Nat) (w : World) (h : w.cell? ⟨b, 0, none⟩ = some (.int .i64 n)) : Calls Try.prog 34 #[.int .i64 x, .pointer (some ⟨b, 0, none⟩)] w fun e w' => e = .returned (.int .i64 (aF n x)) ∧ w' = w := by
  unfold aF
  go_enter Try.func34, Try.ntmps34
  go_wp2
  go_ret
  exact ⟨rfl, rfl⟩
def evenB (x : Int) : Bool := bits BinOp.and IntKind.i64 x 1 == 0
def lowB (x : Int) : Bool := bits BinOp.and IntKind.i64 x 2 == 0
theorem fc3_any (x : Int) (w : World) : Calls Try.prog 35 #[.int .i64 x] w fun e w' => e = .returned (.bool (evenB x)) ∧ w' = w := by
  unfold evenB
  go_enter Try.func35, Try.ntmps35
  go_wp2
  go_ret
  exact ⟨rfl, rfl⟩
theorem fc4_any (x : Int) (w : World) : Calls Try.prog 36 #[.int .i64 x] w fun e w' => e = .returned (.bool (lowB x)) ∧ w' = w := by
  unfold lowB
  go_enter Try.func36, Try.ntmps36
  go_wp2
  go_ret
  exact ⟨rfl, rfl⟩
theorem fc6_any (A : Option Addr) (n c : Nat) (w : World) : Calls Try.prog 39 #[.slice A n c] w fun e w' => e = .returned (.int .i64 (n : Int)) ∧ w' = w := by
  go_enter Try.func39, Try.ntmps39
  go_wp2
  go_ret
  exact ⟨rfl, rfl⟩
theorem fc7_any (x y : Int) (w : World) : Calls Try.prog 40 #[.int .i64 y, .int .i64 x] w fun e w' => e = .returned (.int .i64 (wrap64 (y + x))) ∧ w' = w := by
  go_enter Try.func40, Try.ntmps40
  go_wp2
  go_ret
  exact ⟨rfl, rfl⟩
set_option maxHeartbeats 2000000 in
theorem fc5_any (x m n : Int) (mb nb fb gb : Nat) (w : World) (hm : w.cell? ⟨mb, 0, none⟩ = some (.int .i64 m)) (hn : w.cell? ⟨nb, 0, none⟩ = some (.int .i64 n)) (hf : w.cell? ⟨fb, 0, none⟩ = some (.func (.func 33) #[] #[.pointer (some ⟨mb, 0, none⟩)])) (hg : w.cell? ⟨gb, 0, none⟩ = some (.func (.func 34) #[] #[.pointer (some ⟨nb, 0, none⟩)])) :
    Calls Try.prog 37 #[.int .i64 x, .pointer (some ⟨gb, 0, none⟩), .pointer (some ⟨fb, 0, none⟩)] w fun e w' => e = .returned (.int .i64 (aF n (xF m x))) ∧ Below w.heap.size w w' := by
  have C1 := Lib.hid (fun k => fc1_any x m mb (w.drewN k) hm)
  have C2 := Lib.hid (fun k => fc2_any (xF m x) n nb (w.drewN k) hn)
  have HB := Lib.hid (fun k => fbelowN w k)
  obtain ⟨y, hy⟩ : ∃ y, xF m x = y := ⟨_, rfl⟩
  obtain ⟨z, hz⟩ : ∃ z, aF n y = z := ⟨_, rfl⟩
  rw [hy] at C1 C2
  rw [hy, hz]
  rw [hz] at C2
  clear hm hn hy hz
  go_enter Try.func37, Try.ntmps37
  go_wp2
  go_quiet (first | exact (C1.out _).mono (fun e w' h => ⟨h.1, _, h.2⟩) | exact (C2.out _).mono (fun e w' h => ⟨h.1, _, h.2⟩))
  go_wp2
  go_ret
  exact ⟨rfl, HB.out _⟩
end Go.Proofs.Ytjjkddahfmkhoaa
