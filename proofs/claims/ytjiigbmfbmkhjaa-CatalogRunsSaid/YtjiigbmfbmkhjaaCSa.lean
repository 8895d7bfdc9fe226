/-
  The contracts of cmp.Compare at int and of package catalog's byName; one file laid into a row of files of the call's own.
-/
import Derived.Test.YtjiigbmfbmkhjaaCFv
import Derived.WalkSpells
import Derived.WalkLawsBesides
namespace Go.Proofs.Ytjiigbmfbmkhjaa
set_option linter.unusedVariables false
set_option linter.unusedSimpArgs false
set_option maxRecDepth 100000
open Go.RowKit

def cmp3 (x y : Int) : Int := if x < y then -1 else if y < x then 1 else 0
theorem cmp3_lt (x y : Int) : decide (cmp3 x y < 0) = decide (x < y) := by
  unfold cmp3
  rw [decide_eq_decide]
  split
  · exact ⟨fun _ => by assumption, fun _ => by decide⟩
  · split
    · exact ⟨fun h => absurd h (by decide), fun h => absurd h (by assumption)⟩
    · exact ⟨fun h => absurd h (by decide), fun h => absurd h (by assumption)⟩
theorem compare_any (x y : Int) (hx : I64x x) (hy : I64x y) (w : World) :
    Calls Try.prog 51 #[.int .i64 x, .int .i64 y] w fun e w' => e = .returned (.int .i64 (cmp3 x y)) ∧ w = w' := by
  obtain ⟨x0, x1⟩ := hx; obtain ⟨y0, y1⟩ := hy
  go_enter Try.func51, Try.ntmps51
  by_cases h1 : x < y
  · have d1 : decide (x < y) = true := by simpa using h1
    have E : Hid (cmp3 x y = -1) := Lib.hid (by unfold cmp3; rw [if_pos h1])
    clear h1
    go_wp2
    go_ret
    exact ⟨by rw [E.out]; rfl, rfl⟩
  · have d1 : decide (x < y) = false := by simpa using h1
    by_cases h2 : y < x
    · have d2 : decide (y < x) = true := by simpa using h2
      have d2' : decide (x > y) = true := by simpa using h2
      have E : Hid (cmp3 x y = 1) := Lib.hid (by unfold cmp3; rw [if_neg h1, if_pos h2])
      clear h1 h2
      go_wp2
      go_ret
      exact ⟨by rw [E.out]; rfl, rfl⟩
    · have d2 : decide (y < x) = false := by simpa using h2
      have d2' : decide (x > y) = false := by simpa using h2
      have E : Hid (cmp3 x y = 0) := Lib.hid (by unfold cmp3; rw [if_neg h1, if_neg h2])
      clear h1 h2
      go_wp2
      go_ret
      exact ⟨by rw [E.out]; rfl, rfl⟩
theorem byName_any (p q : Fl) (hp : p.Ok) (hq : q.Ok) (w : World) :
    Calls Try.prog 32 #[.agg #[.int .i64 p.name, .int .i64 p.file, .int .i64 p.first, .int .i64 p.blocks], .agg #[.int .i64 q.name, .int .i64 q.file, .int .i64 q.first, .int .i64 q.blocks]] w fun e w' => e = .returned (.int .i64 (cmp3 p.name q.name)) ∧ Below w.heap.size w w' := by
  have CA := Lib.hid (fun w0 => compare_any p.name q.name hp.a hq.a w0)
  obtain ⟨⟨a0, a1⟩, _⟩ := hp; obtain ⟨⟨b0, b1⟩, _⟩ := hq
  go_enter Try.func32, Try.ntmps32
  go_wp2_with fail
  refine (CA.out _).mono ?_
  rintro e w2 ⟨rfl, rfl⟩
  go_wp2
  go_ret
  exact ⟨rfl, ((Below.refl _ _).alloc (Nat.le_refl _) _).alloc (by simp) _⟩
theorem OwnF.cells4 {w : World} {base g n cap : Nat} {l : List Fl} (h : OwnF w base (some ⟨g, 0, none⟩) n cap l) (i : Nat) (hi : i < n) :
    w.cell? ⟨g, i * 4, none⟩ = some (.int .i64 (flAt l i).name) ∧ w.cell? ⟨g, i * 4 + 1, none⟩ = some (.int .i64 (flAt l i).file) ∧ w.cell? ⟨g, i * 4 + 2, none⟩ = some (.int .i64 (flAt l i).first) ∧ w.cell? ⟨g, i * 4 + 3, none⟩ = some (.int .i64 (flAt l i).blocks) ∧ (flAt l i).Ok := by
  obtain ⟨b, o, e, _, h0, h1, h2, h3, h4⟩ := h.reads i (by rw [h.2.1]; exact hi)
  injection e with e
  injection e with e1 e2
  subst e1 e2
  simp only [Nat.zero_add] at h0 h1 h2 h3
  exact ⟨h0, h1, h2, h3, h4⟩
theorem OwnF.frozen {w : World} {base g n cap : Nat} {l : List Fl} (h : OwnF w base (some ⟨g, 0, none⟩) n cap l) (hn : 0 < n) (k : Nat) : w.frozen? ⟨g, k, none⟩ = false := by
  obtain ⟨g', e, h1⟩ := h.1.at hn
  injection e with e
  injection e with e
  subst e
  exact (h1 k).1
theorem flvs_set : ∀ (l : List Fl) (i : Nat) (f : Fl), i < l.length → flvs (l.set i f) = ((((flvs l).set (i * 4) (.int .i64 f.name)).set (i * 4 + 1) (.int .i64 f.file)).set (i * 4 + 2) (.int .i64 f.first)).set (i * 4 + 3) (.int .i64 f.blocks)
  | [], i, f, hi => absurd hi (by simp)
  | x :: r, 0, f, _ => rfl
  | x :: r, i + 1, f, hi => by
    have ih := flvs_set r i f (by simpa using hi)
    show flv x ++ flvs (r.set i f) = _
    rw [ih]
    have e0 : (i + 1) * 4 = i * 4 + 1 + 1 + 1 + 1 := by omega
    have e1 : (i + 1) * 4 + 1 = (i * 4 + 1) + 1 + 1 + 1 + 1 := by omega
    have e2 : (i + 1) * 4 + 2 = (i * 4 + 2) + 1 + 1 + 1 + 1 := by omega
    have e3 : (i + 1) * 4 + 3 = (i * 4 + 3) + 1 + 1 + 1 + 1 := by omega
    rw [e1, e2, e3, e0]
    rfl
theorem flAt_set (l : List Fl) (i j : Nat) (f : Fl) (hi : i < l.length) : flAt (l.set i f) j = if j = i then f else flAt l j := by
  unfold flAt
  rw [List.getD_eq_getElem?_getD, List.getElem?_set]
  split
  · rename_i h
    subst h
    rw [if_pos rfl]; rfl
  · rename_i h
    rw [if_neg (fun e => h e.symm), List.getD_eq_getElem?_getD]
theorem OwnF.set {w : World} {base g n cap : Nat} {l : List Fl} (h : OwnF w base (some ⟨g, 0, none⟩) n cap l) (i : Nat) (hi : i < n) (f : Fl) (hf : f.Ok) :
    OwnF ((((w.setCell ⟨g, i * 4, none⟩ (.int .i64 f.name)).setCell ⟨g, i * 4 + 1, none⟩ (.int .i64 f.file)).setCell ⟨g, i * 4 + 2, none⟩ (.int .i64 f.first)).setCell ⟨g, i * 4 + 3, none⟩ (.int .i64 f.blocks)) base (some ⟨g, 0, none⟩) n cap (l.set i f) := by
  have hl := h.2.1
  refine ⟨?_, by rw [List.length_set]; exact hl, fun j hj => ?_⟩
  · rw [flvs_set l i f (by omega)]
    exact (((h.1.set _ _).set _ _).set _ _).set _ _
  · rw [List.length_set] at hj
    rw [flAt_set l i j f (by omega)]
    split
    · exact hf
    · exact h.2.2 j hj
theorem keep_set {w : World} {g k : Nat} {v : Value} {F : Nat → Prop} (hF : F g) : Keep F w (w.setCell ⟨g, k, none⟩ v) :=
  ⟨rfl, rfl, rfl, by simp [World.setCell], fun j hj hn => Below.heap_setCell _ _ _ _ (fun e => hn (by rw [e]; exact hF))⟩
theorem Keep.drewN {F : Nat → Prop} {w w' : World} (h : Keep F w w') (q : Nat) : Keep F w (w'.drewN q) := ⟨h.os, h.tape, h.output, h.size, h.block⟩
theorem Keep.drew {F : Nat → Prop} {w w' : World} (h : Keep F w w') : Keep F w w'.drew := ⟨h.os, h.tape, h.output, h.size, h.block⟩
end Go.Proofs.Ytjiigbmfbmkhjaa
