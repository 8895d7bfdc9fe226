/-
  Package flow: rows of ints, what an iterator's walk keeps, From.
-/
import Derived.Shelf.Abstract
import Derived.Shelf.RegionOpen
import Derived.WalkKit
import Derived.OwnWalkIn
import Derived.TacticsInMore
import Derived.LoopNIn
import Derived.LoopIn
import Derived.BigQuiet
import Derived.Test.YtjjkddahfmkhoaaRgF
namespace Go.Proofs.Ytjjkddahfmkhoaa
set_option linter.unusedVariables false
set_option linter.unusedSimpArgs false
set_option maxRecDepth 100000
open Go.RowKit Go.Shelf
attribute [local go_sem] Oper.semAt_some

/-- Ints as values. -/
def fv (xs : List Int) : List Value := xs.map (Value.int .i64)
theorem fv_len (xs : List Int) : (fv xs).length = xs.length := by unfold fv; rw [List.length_map]
theorem fv_app (xs ys : List Int) : fv (xs ++ ys) = fv xs ++ fv ys := by unfold fv; rw [List.map_append]
theorem fv_get (xs : List Int) (k : Nat) : (fv xs)[k]? = xs[k]?.map (Value.int .i64) := by unfold fv; rw [List.getElem?_map]
theorem fv_at {xs : List Int} {k : Nat} {x : Int} (h : xs[k]? = some x) : (fv xs)[k]? = some (.int .i64 x) := by rw [fv_get, h]; rfl
theorem fv_one (xs : List Int) (u : Value) (h : u ∈ fv xs) : u.oneCell' = true := by
  unfold fv at h
  obtain ⟨x, _, rfl⟩ := List.mem_map.1 h
  rfl
theorem fcells_int : Cells1 24 3 := by
  obtain ⟨i, h1, h2, h3, h4⟩ := info_parts (P := Try.prog) (e := 3) (z := .int .i64 0) (size := 1) (bytes := 8) (by kernel_rfl)
  exact ⟨Try.underlying24, i, _, h1, h2, h3, by rw [h4]; decide, rfl⟩
/-- Ints that can be read. -/
def IFw (w : World) (A : Option Addr) (xs : List Int) : Prop := ∀ (k : Nat) (x : Int), xs[k]? = some x → ∃ b o, A = some ⟨b, o, none⟩ ∧ b < w.heap.size ∧ w.cell? ⟨b, o + k, none⟩ = some (.int .i64 x)
theorem IFw.same {w w' : World} {A : Option Addr} {xs : List Int} (h : IFw w A xs) (k : ∀ a, A = some a → w'.heap[a.block]? = w.heap[a.block]?) (hs : w.heap.size ≤ w'.heap.size) : IFw w' A xs := fun q i hi => by
  obtain ⟨g, o, h1, h2, h3⟩ := h q i hi
  exact ⟨g, o, h1, Nat.lt_of_lt_of_le h2 hs, by rw [World.cell?_of_block (w := w) (a := ⟨g, o + q, none⟩) (show w'.heap[g]? = w.heap[g]? from k ⟨g, o, none⟩ h1)]; exact h3⟩
theorem IFw.below {w w' : World} {A : Option Addr} {xs : List Int} (h : IFw w A xs) (b : Below w.heap.size w w') : IFw w' A xs := fun k x hx => by
  obtain ⟨b', o, h1, h2, h3⟩ := h k x hx
  exact ⟨b', o, h1, Nat.lt_of_lt_of_le h2 b.size, by rw [b.cell (p := ⟨b', o + k, none⟩) h2]; exact h3⟩
theorem RowA.ifw {w : World} {e : TypeId} {A : Option Addr} {c : Nat} {xs : List Int} (h : RowA w e A c (fv xs)) : IFw w A xs := fun k x hx => by
  have hk := (List.getElem?_eq_some_iff.1 hx).1
  obtain ⟨g, rfl, h1⟩ := h.at (by rw [fv_len]; omega)
  refine ⟨g, 0, rfl, h.lt _ rfl, ?_⟩
  rw [Nat.zero_add, (h1 k).2 (by rw [fv_len]; exact hk)]
  exact fv_at hx
theorem Arr.ifw {w : World} {g : Nat} {xs : List Int} {t : TypeId} (h : Arr w g t (fv xs)) : IFw w (some ⟨g, 0, none⟩) xs := fun k x hx => ⟨g, 0, rfl, Arr.lt h, by rw [Nat.zero_add, Arr.cell h]; exact fv_at hx⟩
theorem IFw.src {w : World} {A : Option Addr} {c : Nat} {xs : List Int} (h : IFw w A xs) (h0 : A = none → c = 0) : Src w A c (fv xs) := by
  refine ⟨fun e => ⟨?_, h0 e⟩, fun ad e j u hu => ?_⟩
  · rcases xs with _ | ⟨x, r⟩
    · rfl
    · obtain ⟨b, o, e2, _⟩ := h 0 x rfl
      rw [e] at e2; cases e2
  · rw [fv_get] at hu
    cases hx : xs[j]? with
    | none => rw [hx] at hu; cases hu
    | some x =>
      rw [hx] at hu
      obtain ⟨b, o, e2, h2, h3⟩ := h j x hx
      rw [e] at e2
      injection e2 with e2
      subst e2
      rw [Addr.add_mid, h3]
      exact hu
theorem feq_in (d : Nat) (t e : TypeId) (a : Option Addr) (l c : Nat) (h : Try.prog.underlying t = some (.slice e)) (w : World) : (Op.equalIn (d + 1) t (.slice a l c) (.slice none 0 0)).run Try.prog w = .ok a.isNone w := by cases a <;> simp [Op.equalIn, run_underlying h]
theorem feq_nil (t e : TypeId) (a : Option Addr) (l c : Nat) (h : Try.prog.underlying t = some (.slice e)) (w : World) : (binOp .eql t (.slice a l c) (.slice none 0 0)).run Try.prog w = .ok (.bool a.isNone) w := by
  simp only [binOp]
  simp [Op.equal, Op.maxDepth, feq_in 9999 t e a l c h]
theorem ffn_in (d t : Nat) (a b : Array TypeId) (c : Bool) (h : Try.prog.underlying t = some (.func a b c)) (fn : Fn) (p q : Array Value) (w : World) : (Op.equalIn (d + 1) t (.func fn p q) .nilFunc).run Try.prog w = .ok false w := by simp [Op.equalIn, run_underlying h]
/-- A function is not nil. -/
theorem ffn_nil (t : TypeId) (a b : Array TypeId) (c : Bool) (h : Try.prog.underlying t = some (.func a b c)) (fn : Fn) (p q : Array Value) (w : World) : (binOp .eql t (.func fn p q) .nilFunc).run Try.prog w = .ok (.bool false) w := by
  simp only [binOp]
  simp [Op.equal, Op.maxDepth, ffn_in 9999 _ a b c h fn p q w]
theorem mk_fn : ∀ (fn : Fn) (first cap : Array Value) (w : World), (Instr.makeFunc fn first cap).run Try.prog w = .ok (.func fn first cap) w := fun _ _ _ _ => rfl
theorem fset_size (w : World) (a : Addr) (v : Value) : (w.setCell a v).heap.size = w.heap.size := by simp [World.setCell]
theorem Keep.set (w : World) (b k : Nat) (v : Value) : Keep (fun q => q = b) w (w.setCell ⟨b, k, none⟩ v) := ⟨rfl, rfl, rfl, by rw [fset_size]; exact Nat.le_refl _, fun q _ hq => heap_setCell_other w _ q _ hq⟩
theorem balloc (w : World) (o : Obj) : Below w.heap.size w (w.alloc o) := (Below.refl _ _).alloc (Nat.le_refl _) _
theorem Arr.keepF {F : Nat → Prop} {w w' : World} {b : Nat} {T : TypeId} {vs : List Value} (h : Arr w b T vs) (k : Keep F w w') (hn : ¬ F b) : Arr w' b T vs := Arr.same h (k.block b (Arr.lt h) hn)
theorem RowA.keepF {F : Nat → Prop} {w w' : World} {e : TypeId} {A : Option Addr} {c : Nat} {xs : List Value} (h : RowA w e A c xs) (k : Keep F w w') (hn : ∀ a, A = some a → ¬ F a.block) : RowA w' e A c xs := h.same (fun a ha => k.block _ (h.lt a ha) (hn a ha))
theorem round_any {l l' m m' : Nat} {P : Program} {f : FuncId} {tmps : Array Value} {assign body : Code} {w : World} {R : Ending → World → Prop}
    (h : RoundIn Fence.wide m P l f tmps assign body w R) : RoundIn (Fence.wide.inRound l') m' P l f tmps assign body w R := round_deep (m' := m') h
/-- Where an iterator's walk stands: begun with the loop's blocks A in the world W, now they are A' in wr. -/
structure Itv (A Mt : Nat → Prop) (W : World) (A' : Nat → Prop) (wr : World) : Prop where
  keep : Keep (fun k => A k ∨ Mt k) W wr
  low : Low A' wr
  sub : ∀ k, A' k → A k ∨ W.heap.size ≤ k
theorem Itv.start {A Mt : Nat → Prop} {W : World} (h : Low A W) : Itv A Mt W A W := ⟨Keep.refl _ _, h, fun _ h => Or.inl h⟩
theorem Itv.below {A Mt : Nat → Prop} {W wr W2 : World} {A' : Nat → Prop} (h : Itv A Mt W A' wr) (b : Below wr.heap.size wr W2) : Itv A Mt W A' W2 :=
  ⟨(h.keep.then (Keep.of_below (F := fun _ => False) b)).more (fun q e => e.elim id False.elim), fun q hq => Nat.lt_of_lt_of_le (h.low q hq) b.size, h.sub⟩
theorem Itv.wr {A Mt F : Nat → Prop} {W wr W2 : World} {A' : Nat → Prop} (h : Itv A Mt W A' wr) (b : Keep F wr W2) (hF : ∀ k, F k → Mt k ∨ W.heap.size ≤ k) : Itv A Mt W A' W2 :=
  ⟨⟨b.os.trans h.keep.os, b.tape.trans h.keep.tape, b.output.trans h.keep.output, Nat.le_trans h.keep.size b.size, fun q h1 h2 => (b.block q (by have := h.keep.size; omega) (fun e => by rcases hF q e with e | e; exact h2 (Or.inr e); omega)).trans (h.keep.block q h1 h2)⟩, fun q hq => Nat.lt_of_lt_of_le (h.low q hq) b.size, h.sub⟩
theorem Itv.step {A Mt X : Nat → Prop} {W wr W3 : World} {A' A'' : Nat → Prop} (h : Itv A Mt W A' wr) (l : Left A' X wr W3 A'') (hX : ∀ k, X k → W.heap.size ≤ k) : Itv A Mt W A'' W3 := by
  refine ⟨⟨l.keep.os.trans h.keep.os, l.keep.tape.trans h.keep.tape, l.keep.output.trans h.keep.output, Nat.le_trans h.keep.size l.keep.size, fun q h1 h2 => ?_⟩, l.low, fun q hq => ?_⟩
  · refine (l.keep.block q (by have := h.keep.size; omega) (fun e => ?_)).trans (h.keep.block q h1 h2)
    rcases e with e | e
    · rcases h.sub q e with e | e
      · exact h2 (Or.inl e)
      · omega
    · have := hX q e; omega
  · rcases l.sub q hq with e | e | e
    · exact h.sub q e
    · exact Or.inr (hX q e)
    · have := h.keep.size; exact Or.inr (by omega)
/-- A block that is neither the loop's nor the element's stays so. -/
theorem Left.out {A X A' : Nat → Prop} {W W' : World} (h : Left A X W W' A') {q : Nat} (hq : q < W.heap.size) (h1 : ¬ A q) (h2 : ¬ X q) : ¬ A' q ∧ W'.heap[q]? = W.heap[q]? :=
  ⟨fun e => by rcases h.sub q e with e | e | e; exact h1 e; exact h2 e; omega, h.keep.block q hq (fun e => e.elim h1 h2)⟩
set_option maxHeartbeats 400000 in
theorem fclone_any (A : Option Addr) (n c : Nat) (xs : List Int) (w : World) (h : IFw w A xs) (hl : xs.length = n) (hn : n ≤ 100000) (hc : A = none → c = 0) :
    Calls Try.prog 45 #[.slice A n c] w fun e w' => ∃ A' c', e = .returned (.slice A' n c') ∧ RowA w' 3 A' c' (fv xs) ∧ (∀ a, A' = some a → w.heap.size ≤ a.block) ∧ Below w.heap.size w w' := by
  have H := Lib.hid (h.src hc); have HL := Lib.hid hl
  cases A with
  | none =>
    have hv : xs = [] := by
      rcases xs with _ | ⟨x, r⟩
      · rfl
      · obtain ⟨b, o, e2, _⟩ := h 0 x rfl
        cases e2
    subst hv
    have hl : 0 = n := hl
    subst hl
    have hc := hc rfl
    subst hc
    have en := feq_nil 24 3 none 0 0 Try.underlying24
    clear h
    go_enter Try.func45, Try.ntmps45
    go_wp2_with fail
    go_ret
    exact ⟨none, 0, rfl, RowA.nil _ _, fun a ha => (by cases ha), Below.refl _ _⟩
  | some a =>
    have en := feq_nil 24 3 (some a) n c Try.underlying24
    have H2 := Lib.hid (h.below (balloc w (.cells #[] 3)))
    clear h hl
    go_enter Try.func45, Try.ntmps45
    go_wp2_with (at_builtin; go_loud (refine app_row _ rfl _ _ 24 3 rfl Try.underlying24 (.int .i64 0) 8 (by kernel_rfl) rfl (by decide) w.heap.size (some ⟨w.heap.size, 0, none⟩) 0 0 [] rfl rfl (RowO.empty w _ _ (Nat.le_refl _)) (some a) n c (fv xs) ((fv_len xs).trans HL.out) rfl (H2.out.src (fun e => by cases e)) (fv_one xs) (by omega) (by simp) (by simp) ?_))
    intro A' c'' w' r1 r2 _
    have R1 := Lib.hid r1
    have B1 : Hid (Below w.heap.size w w') := Lib.hid (Below.grown (Below.alloc (Below.refl _ w) (Nat.le_refl _) (.cells #[] 3)) r2 (by simp) (fun k hk => by have hk : some w.heap.size = some k := hk; injection hk with hk; omega))
    clear r1 r2
    go_wp2
    go_ret
    exact ⟨A', c'', rfl, R1.out.row, fun a ha => (R1.out.ge a ha).1, B1.out⟩
theorem from_any (A : Option Addr) (n c : Nat) (xs : List Int) (w : World) (h : IFw w A xs) (hl : xs.length = n) (hn : n ≤ 100000) (hc : A = none → c = 0) :
    Calls Try.prog 12 #[.slice A n c] w fun e w' => ∃ b A' c', e = .returned (.func (.func 46) #[] #[.pointer (some ⟨b, 0, none⟩)]) ∧ (Arr w' b 24 [.slice A' n c'] ∧ RowA w' 3 A' c' (fv xs)) ∧ (w.heap.size ≤ b ∧ ∀ a, A' = some a → w.heap.size ≤ a.block) ∧ Below w.heap.size w w' := by
  have CL := Lib.hid (fclone_any A n c xs w h hl hn hc)
  have hmf := mk_fn
  clear h hl hc
  go_enter Try.func12, Try.ntmps12
  go_wp2_with fail
  refine CL.out.mono ?_
  rintro e w1 ⟨A', c', rfl, r1, f1, b1⟩
  have R1 := Lib.hid r1; have F1 := Lib.hid f1; have B1 := Lib.hid b1
  clear CL r1 f1 b1
  go_wp2_with fail
  go_ret
  refine ⟨w1.heap.size, A', c', rfl, ⟨?_, ?_⟩, ⟨B1.out.size, F1.out⟩, ?_⟩
  · exact Arr.new w1 _ [_]
  · exact R1.out.below (balloc w1 _)
  · exact B1.out.alloc B1.out.size _
theorem take_at {α : Type} {xs : List α} {j : Nat} {x : α} (h : xs[j]? = some x) : xs.take j ++ x :: xs.drop (j + 1) = xs := by
  obtain ⟨hj, rfl⟩ := List.getElem?_eq_some_iff.1 h
  rw [← List.drop_eq_getElem_cons hj]
  exact List.take_append_drop j xs
/-- What From's iterator tells. -/
def NextI (xs pre : List Int) (x : Int) (_ : World) : Prop := ∃ post, pre ++ x :: post = xs
def AllI (xs pre : List Int) (_ : World) : Prop := pre = xs
def PartI (xs pre : List Int) (_ : World) : Prop := ∃ post, pre ++ post = xs
def encI (x : Int) : Array Value := #[.int .i64 x]
def nowhere (_ : Int) (_ : Nat) : Prop := False
def FromB (b : Nat) (A : Option Addr) (k : Nat) : Prop := k = b ∨ Of A k
def NoB (_ : Nat) : Prop := False
set_option maxHeartbeats 4000000 in
theorem from_seq (b : Nat) (A : Option Addr) (n c : Nat) (xs : List Int) (w : World) (hb : Arr w b 24 [.slice A n c]) (hr : RowA w 3 A c (fv xs)) (hl : xs.length = n) (hn : n ≤ 100000) :
    SeqF Try.prog 46 #[.pointer (some ⟨b, 0, none⟩)] encI nowhere (NextI xs) (AllI xs) (PartI xs) (FromB b A) NoB w := by
  refine ⟨fun k hk => ?_, fun k hk => hk.elim, fun _ _ _ _ _ h _ _ => h, fun _ _ _ _ h _ _ => h, fun _ _ _ _ h _ _ => h, ?_⟩
  · rcases hk with rfl | ⟨a, ha, rfl⟩
    · exact Arr.lt hb
    · exact hr.lt a ha
  intro l J Jx AA W hW hJ hJx hdis hlow hY h0
  replace hb := hb.keepF hW (fun e => e (Or.inl rfl))
  replace hr := hr.keepF hW (fun a ha e => e (Or.inr ⟨a, ha, rfl⟩))
  have HY := Lib.hid hY; have HJ := Lib.hid hJ; have HD := Lib.hid hdis; have HR := Lib.hid hr; have HB := Lib.hid hb; have HL := Lib.hid hl; have HLO := Lib.hid hlow; have H0 := Lib.hid h0
  have c0 : W.cell? ⟨b, 0, none⟩ = some (.slice A n c) := hb.cell 0
  clear hY hJ hJx hdis hr hb hl hlow h0 hW w
  refine (callsIn_wide (n := 5)).1 ?_
  refine callsIn_of_wp Try.func46 rfl trivial ?_ rfl
  simp only [Try.ntmps46, List.size_toArray, List.length_cons, List.length_nil, Nat.reduceAdd, Nat.reduceSub, Array.replicate_succ, Array.replicate_zero, List.push_toArray, List.append_toArray, List.nil_append, List.cons_append]
  gi_wp2
  gi_loopw [7] (fun kv wr => ∃ (j : Nat) (A' : Nat → Prop), kv = .int .i64 j ∧ j ≤ n ∧ J (xs.take j) A' wr ∧ Itv AA NoB W A' wr)
    (fun kv _ => n - (intOf kv).toNat)
  case atStart => exact ⟨0, AA, rfl, Nat.zero_le _, H0.out, Itv.start HLO.out⟩
  case round =>
    obtain ⟨j, A', rfl, hj, hJs, hI⟩ := hrel
    have HJs := Lib.hid hJs; have HI := Lib.hid hI
    clear hJs hI
    by_cases hlt : j < n
    · obtain ⟨x, hx⟩ : ∃ x, xs[j]? = some x := ⟨_, List.getElem?_eq_getElem (by rw [HL.out]; exact hlt)⟩
      have hAr : ∀ q, FromB b A q → ¬ AA q := fun q => HD.out q
      have rr := HR.out.keepF HI.out.keep (fun a ha e => e.elim (hAr _ (Or.inr ⟨a, ha, rfl⟩)) id)
      obtain ⟨g, hg, h1⟩ := rr.at (by rw [fv_len, HL.out]; omega)
      subst hg
      have cx : wr.cell? ⟨g, j, none⟩ = some (.int .i64 x) := by rw [(h1 j).2 (by rw [fv_len, HL.out]; exact hlt)]; exact fv_at hx
      have hy := HY.out (xs.take j) x A' wr HJs.out HI.out.low HI.out.keep.size (by
        refine ⟨xs.drop (j + 1), ?_⟩
        exact take_at hx) (fun q h => h.elim) (fun q h => h.elim) 0
      obtain ⟨fn, tmps, assign, body, hy, hR⟩ := hy
      unfold encI at hy
      have HRR := Lib.hid hR; have HX := Lib.hid hx
      clear hR rr h1 hx hAr
      gi_wp2
      refine (round_deep HRR.out).mono ?_
      rintro e W3 ⟨A'', hl3, ⟨rfl, hJ3⟩ | ⟨rfl, hJx3⟩⟩
      · have HJ3 := Lib.hid hJ3; have HI3 := Lib.hid (HI.out.step hl3 (fun k h => h.elim))
        clear hJ3 hl3 hy cx
        gi_wp2
        go_roundw
        case rel =>
          refine ⟨j + 1, A'', by go_num, by omega, ?_, HI3.out⟩
          rw [List.take_add_one, HX.out]
          exact HJ3.out
        case measure => simp [intOf]; omega
      · have HJ3 := Lib.hid hJx3; have HI3 := Lib.hid (HI.out.step hl3 (fun k h => h.elim))
        clear hJx3 hl3 hy cx
        gi_wp2
        refine bodyPost_ret (results_none rfl _ _ _) rfl ?_
        refine ⟨⟨_, rfl⟩, HI3.out.keep, A'', HI3.out.low, fun k hk => ⟨fun e => ?_, HI3.out.sub k hk⟩, Or.inr ⟨_, ?_, HJ3.out⟩⟩
        · rcases HI3.out.sub k hk with h | h
          · exact HD.out k e h
          · rcases e with rfl | ⟨a, ha, rfl⟩
            · have := Arr.lt HB.out; omega
            · have := HR.out.lt a ha; omega
        · refine ⟨xs.drop (j + 1), ?_⟩
          rw [List.append_assoc]
          show xs.take j ++ x :: xs.drop (j + 1) = xs
          exact take_at HX.out
    · have ejn : n ≤ j := by omega
      gi_wp2
      go_end0
      refine ⟨⟨_, rfl⟩, HI.out.keep, A', HI.out.low, fun k hk => ⟨fun e => ?_, HI.out.sub k hk⟩, Or.inl ⟨_, ?_, HJs.out⟩⟩
      · rcases HI.out.sub k hk with h | h
        · exact HD.out k e h
        · rcases e with rfl | ⟨a, ha, rfl⟩
          · have := Arr.lt HB.out; omega
          · have := HR.out.lt a ha; omega
      · exact List.take_of_length_le (by rw [HL.out]; exact ejn)
end Go.Proofs.Ytjjkddahfmkhoaa
