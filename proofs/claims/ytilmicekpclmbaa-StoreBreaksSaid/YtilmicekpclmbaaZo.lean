/-
  Whether a leaf is right, as a Bool; a slice of bytes read from a place on.
  The contracts of package leaf's isTwo, areNoughts and Right: Right says whether a leaf is right; nothing that was in memory turns.
-/
import Derived.Test.YtilmicekpclmbaaZm
import Derived.LoopN
import Derived.WalkSpells
import Derived.WalkLawsBesides
namespace Go.Proofs.Ytilmicekpclmbaa
set_option linter.unusedVariables false
set_option linter.unusedSimpArgs false
open Go.RowKit

def noughts (xs : List Int) : Bool := xs.all (fun x => x == 0)
theorem noughts_yes (xs : List Int) : noughts xs = true ↔ ∀ k, k < xs.length → xs.getD k 0 = 0 := by
  unfold noughts
  rw [List.all_eq_true]
  constructor
  · intro h k hk
    have := h (xs[k]) (List.getElem_mem hk)
    rw [List.getD_eq_getElem?_getD, List.getElem?_eq_getElem hk]
    simpa using this
  · intro h x hx
    obtain ⟨k, hk, rfl⟩ := List.mem_iff_getElem.1 hx
    have := h k hk
    rw [List.getD_eq_getElem?_getD, List.getElem?_eq_getElem hk] at this
    simpa using this
def twoB (n : Int) : Bool := decide (0 ≤ n) && decide (n ≤ 65535)
theorem twoB_yes {n : Int} : twoB n = true ↔ 0 ≤ n ∧ n ≤ 65535 := by unfold twoB; simp
theorem RdB.drop {w : World} {B b o : Nat} {xs : List Int} (h : RdB w B (some ⟨b, o, none⟩) xs) (m : Nat) : RdB w B (some ⟨b, o + m, none⟩) (xs.drop m) := fun k hk => by
  rw [List.length_drop] at hk
  obtain ⟨b', o', e, h1, h2, h3⟩ := h (m + k) (by omega)
  injection e with e
  injection e with e1 e2
  subst e1 e2
  have q : (xs.drop m).getD k 0 = xs.getD (m + k) 0 := by rw [List.getD_eq_getElem?_getD, List.getElem?_drop, ← List.getD_eq_getElem?_getD]
  rw [q]
  exact ⟨b, o + m, rfl, h1, by rw [Nat.add_assoc]; exact h2, h3⟩
/-- Is it right? -/
def Lf.rt (L : Lf) : Bool := (decide (L.kind = 1) || decide (L.kind = 2)) && (twoB L.file && (twoB L.place && (twoB L.next && (decide (0 ≤ L.size) && (decide (L.size ≤ 116) && noughts (L.load.drop L.size.toNat))))))
theorem bare_iff {L : Lf} (h : L.load.length = 116) (h0 : 0 ≤ L.size) : noughts (L.load.drop L.size.toNat) = true ↔ L.bare := by
  rw [noughts_yes]
  unfold Lf.bare
  have e : ∀ k, (L.load.drop L.size.toNat).getD k 0 = L.load.getD (L.size.toNat + k) 0 := fun k => by
    rw [List.getD_eq_getElem?_getD, List.getElem?_drop, ← List.getD_eq_getElem?_getD]
  constructor
  · intro hk j hj h116
    have := hk (j - L.size.toNat) (by rw [List.length_drop]; omega)
    rw [e] at this
    have q : L.size.toNat + (j - L.size.toNat) = j := by omega
    rw [q] at this
    exact this
  · intro hk k hkl
    rw [List.length_drop] at hkl
    rw [e]
    exact hk _ (by omega) (by omega)
theorem Lf.rt_iff {L : Lf} (h : L.Ok) : L.rt = true ↔ L.Right := by
  unfold Lf.rt
  simp only [Bool.and_eq_true, Bool.or_eq_true, decide_eq_true_eq, twoB_yes]
  constructor
  · rintro ⟨hk, hf, hp, hn, h0, h1, hb⟩
    exact ⟨hk, hf, hp, hn, ⟨h0, h1⟩, (bare_iff h.l h0).1 hb⟩
  · rintro ⟨hk, hf, hp, hn, ⟨h0, h1⟩, hb⟩
    exact ⟨hk, hf, hp, hn, h0, h1, (bare_iff h.l h0).2 hb⟩
theorem Lf.rt_no {L : Lf} (h : L.Ok) : L.rt = false ↔ ¬ L.Right := by
  rw [← Lf.rt_iff h]; cases L.rt <;> simp
end Go.Proofs.Ytilmicekpclmbaa
namespace Go.Proofs.Ytilmicekpclmbaa
set_option linter.unusedVariables false
set_option linter.unusedSimpArgs false
open Go.RowKit

theorem isTwo_any (n : Int) (h0 : -9223372036854775808 ≤ n) (h1 : n ≤ 9223372036854775807) (w : World) :
    Calls Try.prog 74 #[.int .i64 n] w fun e w' => e = .returned (.bool (twoB n)) ∧ w = w' := by
  go_enter Try.func74, Try.ntmps74
  by_cases t1 : 0 ≤ n
  · have d1 : decide (0 ≤ n) = true := by simpa using t1
    have d2 : decide (n ≥ 0) = true := by simpa using t1
    obtain ⟨q, hq⟩ : ∃ q, decide (n ≤ 65535) = q := ⟨_, rfl⟩
    have E : Hid (twoB n = q) := Lib.hid (by unfold twoB; rw [d1, hq]; rfl)
    clear t1
    go_wp2
    go_ret
    exact ⟨by rw [E.out]; rfl, rfl⟩
  · have d1 : decide (0 ≤ n) = false := by simpa using t1
    have d2 : decide (n ≥ 0) = false := by simpa using t1
    have E : Hid (twoB n = false) := Lib.hid (by unfold twoB; rw [d1]; rfl)
    clear t1
    go_wp2
    go_ret
    exact ⟨by rw [E.out]; rfl, rfl⟩

set_option maxHeartbeats 400000 in
theorem noughts_any (N : Nat) (A : Option Addr) (n cap : Nat) (xs : List Int) (hl : xs.length = n) (hm : n ≤ 1000) (w : World) (hr : RdB w N A xs) :
    Calls Try.prog 75 #[.slice A n cap] w fun e w' => e = .returned (.bool (noughts xs)) ∧ w = w' := by
  have HR := Lib.hid hr; have HL := Lib.hid hl
  clear hr hl
  go_enter Try.func75, Try.ntmps75
  go_wp2
  go_loop [4, 7] (fun _ i => ∃ k : Nat, k ≤ n ∧ i = .int .i64 k ∧ (∀ j, j < k → xs.getD j 0 = 0)) (fun _ i => n - (intOf i).toNat)
  case atStart => exact ⟨0, Nat.zero_le _, rfl, fun j hj => by omega⟩
  case round =>
    obtain ⟨k, hk, rfl, hall⟩ := hrel
    have HALL := Lib.hid hall
    clear hall
    by_cases hlt : k < n
    · obtain ⟨bb, oo, rfl, hb, hc, hu⟩ := HR.out k (by rw [HL.out]; exact hlt)
      obtain ⟨u0, u1⟩ := id hu
      by_cases hz : xs.getD k 0 = 0
      · have hnext : ∀ j, j < k + 1 → xs.getD j 0 = 0 := fun j hj => by
          by_cases hjk : j = k
          · rw [hjk]; exact hz
          · exact HALL.out j (by omega)
        have HN := Lib.hid hnext
        rw [hz] at hc
        clear hnext hz hu u0 u1
        go_wp2
        go_round
        case rel => exact ⟨k + 1, by omega, by go_num, HN.out⟩
        case measure => simp [intOf]; omega
      · have hg : noughts xs = false := by
          cases h : noughts xs
          · rfl
          · exact absurd ((noughts_yes xs).1 h k (by rw [HL.out]; exact hlt)) hz
        have HG := Lib.hid hg
        have t1 : (xs.getD k 0 != 0) = true := by simpa using hz
        clear hg hz hu
        generalize xs.getD k 0 = x at *
        go_wp2
        go_ret
        exact ⟨by rw [HG.out]; rfl, rfl⟩
    · obtain rfl : k = n := by omega
      have hg : noughts xs = true := (noughts_yes xs).2 (by rw [HL.out]; exact HALL.out)
      have HG := Lib.hid hg
      clear hg
      go_wp2
      go_ret
      exact ⟨by rw [HG.out]; rfl, rfl⟩

set_option maxHeartbeats 800000 in
theorem right_any (L : Lf) (h : L.Ok) (w : World) :
    Calls Try.prog 62 #[.agg (lv L).toArray] w fun e w' => e = .returned (.bool L.rt) ∧ Below w.heap.size w w' := by
  have H := Lib.hid h
  obtain ⟨R, hR⟩ : ∃ R, L.rt = R := ⟨_, rfl⟩
  rw [hR]
  unfold Lf.rt at hR
  have kb := h.k; have fb := h.f; have pb := h.p; have nb := h.n; have sb := h.s
  go_enter Try.func62, Try.ntmps62
  go_wp2_with (with_reducible refine box_leaf rfl _ rfl L H.out rfl ?_)
  intro w1 l1 b1 s1
  obtain ⟨b, hb⟩ : ∃ b, b = w.heap.size := ⟨_, rfl⟩
  rw [← hb] at l1 ⊢
  have RD : Hid (RdB w1 w1.heap.size (some ⟨b, 5, none⟩) L.load) := Lib.hid l1.reads
  have c0 := l1.kind; have c1 := l1.file; have c2 := l1.place; have c3 := l1.next; have c4 := l1.size
  have lb := l1.lt
  have HB := Lib.hid hb; have B1 := Lib.hid b1; have LL := Lib.hid h.l; have HR := Lib.hid hR
  clear h hb b1 s1 l1 hR
  have TW := Lib.hid (fun n h0 h1 w0 => isTwo_any n h0 h1 w0)
  obtain ⟨kb0, kb1⟩ := kb; obtain ⟨fb0, fb1⟩ := fb; obtain ⟨pb0, pb1⟩ := pb; obtain ⟨nb0, nb1⟩ := nb; obtain ⟨sb0, sb1⟩ := sb
  by_cases hk : L.kind = 1 ∨ L.kind = 2
  · have K1 : Hid ((decide (L.kind = 1) || decide (L.kind = 2)) = true) := Lib.hid (by simpa using hk)
    rw [K1.out, Bool.true_and] at HR
    rcases hk with hk | hk
    all_goals
      rw [hk] at c0
      clear hk K1 kb0 kb1
      go_wp2_with fail
      refine (TW.out L.file fb0 fb1 w1).mono ?_
      rintro e w2 ⟨rfl, rfl⟩
      cases tf : twoB L.file
      · rw [tf, Bool.false_and] at HR
        clear tf
        go_wp2
        go_ret
        exact ⟨by rw [← HR.out]; rfl, B1.out⟩
      · rw [tf, Bool.true_and] at HR
        clear tf
        go_wp2_with fail
        refine (TW.out L.place pb0 pb1 w1).mono ?_
        rintro e w2 ⟨rfl, rfl⟩
        cases tf : twoB L.place
        · rw [tf, Bool.false_and] at HR
          clear tf
          go_wp2
          go_ret
          exact ⟨by rw [← HR.out]; rfl, B1.out⟩
        · rw [tf, Bool.true_and] at HR
          clear tf
          go_wp2_with fail
          refine (TW.out L.next nb0 nb1 w1).mono ?_
          rintro e w2 ⟨rfl, rfl⟩
          cases tf : twoB L.next
          · rw [tf, Bool.false_and] at HR
            clear tf
            go_wp2
            go_ret
            exact ⟨by rw [← HR.out]; rfl, B1.out⟩
          · rw [tf, Bool.true_and] at HR
            clear tf
            by_cases hs0 : 0 ≤ L.size
            · have d1 : decide (0 ≤ L.size) = true := by simpa using hs0
              have d2 : decide (L.size ≥ 0) = true := by simpa using hs0
              rw [d1, Bool.true_and] at HR
              by_cases hs1 : L.size ≤ 116
              · have d3 : decide (L.size ≤ 116) = true := by simpa using hs1
                rw [d3, Bool.true_and] at HR
                obtain ⟨z, hz⟩ : ∃ z : Nat, L.size = z := ⟨L.size.toNat, by omega⟩
                rw [hz] at c4 d1 d2 d3 hs0 hs1 sb0 sb1 HR
                have ng := fun cap A w0 hr => noughts_any w1.heap.size A (116 - z) cap (L.load.drop z) (by rw [List.length_drop, LL.out]) (by omega) w0 hr
                have e0 : ((z : Int)).toNat = z := by omega
                rw [e0] at HR
                have RD' : Hid (RdB w1 w1.heap.size (some ⟨b, 5 + z, none⟩) (L.load.drop z)) := Lib.hid (RD.out.drop z)
                have hz1 : z ≤ 116 := by omega
                have NG := Lib.hid ng
                clear e0 hz ng
                by_cases hzz : z = 116
                · subst hzz
                  have ed : L.load.drop 116 = [] := List.drop_eq_nil_of_le (by rw [LL.out]; exact Nat.le_refl _)
                  rw [ed] at HR
                  have EN := Lib.hid (noughts_any w1.heap.size (some ⟨b, 5, none⟩) 0 0 [] rfl (by decide) w1 (fun k hk => absurd hk (by simp)))
                  clear NG ed
                  go_wp2_with fail
                  refine EN.out.mono ?_
                  rintro e w2 ⟨rfl, rfl⟩
                  have er : noughts [] = R := HR.out
                  rw [er]
                  clear er
                  go_wp2
                  go_ret
                  exact ⟨rfl, B1.out⟩
                · have hz2 : z < 116 := by omega
                  clear hzz
                  go_wp2_with fail
                  refine (NG.out _ _ w1 RD'.out).mono ?_
                  rintro e w2 ⟨rfl, rfl⟩
                  have er : noughts (L.load.drop z) = R := HR.out
                  rw [er]
                  clear er
                  go_wp2
                  go_ret
                  exact ⟨rfl, B1.out⟩
              · have d3 : decide (L.size ≤ 116) = false := by simpa using hs1
                rw [d3, Bool.false_and] at HR
                go_wp2
                go_ret
                exact ⟨by rw [← HR.out]; rfl, B1.out⟩
            · have d1 : decide (0 ≤ L.size) = false := by simpa using hs0
              have d2 : decide (L.size ≥ 0) = false := by simpa using hs0
              rw [d1, Bool.false_and] at HR
              go_wp2
              go_ret
              exact ⟨by rw [← HR.out]; rfl, B1.out⟩
  · have K1 : Hid ((decide (L.kind = 1) || decide (L.kind = 2)) = false) := Lib.hid (by simpa using hk)
    rw [K1.out, Bool.false_and] at HR
    have t1 : (L.kind != 1) = true := by simp; omega
    have t2 : (L.kind != 2) = true := by simp; omega
    clear hk K1
    go_wp2
    go_ret
    exact ⟨by rw [← HR.out]; rfl, B1.out⟩
end Go.Proofs.Ytilmicekpclmbaa
