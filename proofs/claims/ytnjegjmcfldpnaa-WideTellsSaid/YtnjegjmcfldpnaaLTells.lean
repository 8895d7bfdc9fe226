/-
  The walk of the statement WideTells: for every four ints the call returns true; nothing that was in memory turns.
-/
import Derived.Test.YtnjegjmcfldpnaaLRuns
import Derived.Test.YtnjegjmcfldpnaaWAdd
import Derived.Test.YtnjegjmcfldpnaaWCmp
import Derived.Test.YtnjegjmcfldpnaaRefB
import Derived.Test.YtnjegjmcfldpnaaRefC
namespace Go.Proofs.Ytnjegjmcfldpnaa
set_option linter.unusedVariables false
set_option linter.unusedSimpArgs false
open Go.RowKit

/-- Both answers to Int are one. -/
theorem int_both (x : Int) (hx : W128 x) : ∃ (V : Int) (B : Bool),
    (∀ w0, Calls Try.prog 10 #[.agg #[.int .i64 (hiW x), .int .u64 (loW x)]] w0 fun e w' => e = .returned (.tuple #[.int .i64 V, .bool B]) ∧ Below w0.heap.size w0 w') ∧
    (∀ w0, Calls Try.prog 18 #[.agg #[.int .i64 (hiW x), .int .u64 (loW x)]] w0 fun e w' => e = .returned (.tuple #[.int .i64 V, .bool B]) ∧ Below w0.heap.size w0 w') := by
  by_cases h : I64 x
  · exact ⟨x, true, int_yes x h, rint_yes x h⟩
  · exact ⟨0, false, int_no x hx h, rint_no x hx h⟩
/-- Both answers to Quo are one. -/
theorem quo_both (x d : Int) (hx0 : -170141183460469231731687303715884105726 < x) (hx1 : x < 170141183460469231731687303715884105726) (hd : d ≤ 9223372036854775807) : ∃ (V : Int) (B : Bool),
    (∀ w0, Calls Try.prog 11 #[.agg #[.int .i64 (hiW x), .int .u64 (loW x)], .int .i64 d] w0 fun e w' => e = .returned (.tuple #[.int .i64 V, .bool B]) ∧ Below w0.heap.size w0 w') ∧
    (∀ w0, Calls Try.prog 19 #[.agg #[.int .i64 (hiW x), .int .u64 (loW x)], .int .i64 d] w0 fun e w' => e = .returned (.tuple #[.int .i64 V, .bool B]) ∧ Below w0.heap.size w0 w') := by
  have hx : W128 x := ⟨by omega, by omega⟩
  by_cases h : d ≤ 0
  · exact ⟨0, false, quo_bad x d h, rquo_bad x d h⟩
  · have ref : ∀ w0, Calls Try.prog 19 #[.agg #[.int .i64 (hiW x), .int .u64 (loW x)], .int .i64 d] w0 fun e w' => ((I64 (nearS x d) → e = .returned (.tuple #[.int .i64 (nearS x d), .bool true])) ∧ (¬ I64 (nearS x d) → e = .returned (.tuple #[.int .i64 0, .bool false]))) ∧ Below w0.heap.size w0 w' := by
      intro w0
      by_cases s : x < 0
      · have e : nearS x d = -near (-x) d := by unfold nearS; rw [if_pos s]
        rw [e]; exact rquo_neg x d s hx0 (by omega) hd w0
      · have e : nearS x d = near x d := by unfold nearS; rw [if_neg s]
        rw [e]; exact rquo_pos x d (by omega) hx1 (by omega) hd w0
    by_cases hI : I64 (nearS x d)
    · exact ⟨nearS x d, true, quo_yes x d hx (by omega) hd hI, fun w0 => (ref w0).mono fun e w' ⟨⟨p, _⟩, b⟩ => ⟨p hI, b⟩⟩
    · exact ⟨0, false, quo_no x d hx (by omega) hd hI, fun w0 => (ref w0).mono fun e w' ⟨⟨_, p⟩, b⟩ => ⟨p hI, b⟩⟩

/-- Three structs stay through a call that writes nothing old. -/
def S3 (W : World) (n m l : Nat) (v0 v1 u0 u1 t0 t1 : Value) (w' : World) : Prop :=
  Below W.heap.size W w' ∧ w'.cell? ⟨n, 0, none⟩ = some v0 ∧ w'.cell? ⟨n, 1, none⟩ = some v1 ∧ w'.cell? ⟨m, 0, none⟩ = some u0 ∧ w'.cell? ⟨m, 1, none⟩ = some u1 ∧ w'.cell? ⟨l, 0, none⟩ = some t0 ∧ w'.cell? ⟨l, 1, none⟩ = some t1
theorem keepS3 {W W1 w' : World} {n m l : Nat} {v0 v1 u0 u1 t0 t1 : Value} (hb : Below W1.heap.size W1 w') (h : S3 W n m l v0 v1 u0 u1 t0 t1 W1) (hn : n < W.heap.size) (hm : m < W.heap.size) (hl : l < W.heap.size) : S3 W n m l v0 v1 u0 u1 t0 t1 w' := by
  obtain ⟨h1, h2, h3, h4, h5, h6, h7⟩ := h
  have := h1.size
  exact ⟨h1.trans (hb.mono this), by rw [hb.cell (p := ⟨n, 0, none⟩) (by show n < _; omega)]; exact h2, by rw [hb.cell (p := ⟨n, 1, none⟩) (by show n < _; omega)]; exact h3, by rw [hb.cell (p := ⟨m, 0, none⟩) (by show m < _; omega)]; exact h4, by rw [hb.cell (p := ⟨m, 1, none⟩) (by show m < _; omega)]; exact h5, by rw [hb.cell (p := ⟨l, 0, none⟩) (by show l < _; omega)]; exact h6, by rw [hb.cell (p := ⟨l, 1, none⟩) (by show l < _; omega)]; exact h7⟩

set_option maxRecDepth 100000 in
set_option maxHeartbeats 2000000 in
theorem tells_any (a b c d : Int) (ha : I64 a) (hb : I64 b) (hc : I64 c) (hd : I64 d) (w : World) : Calls Try.prog 4 #[.int .i64 a, .int .i64 b, .int .i64 c, .int .i64 d] w fun e w' => e = .returned (.bool true) ∧ Below w.heap.size w w' := by
  have cM := fun w0 => mul_any a b ha hb w0
  have cR := fun w0 => rmul_any a b ha hb w0
  have pb := prod_bd ha hb
  have hP := prod_W128 ha hb
  generalize a * b = P at cM cR pb hP
  have hY : W128 (P + c) := by unfold I64 at hc; exact ⟨by omega, by omega⟩
  obtain ⟨V, B, t1, t2⟩ := int_both (P + c) hY
  obtain ⟨V', B', t3, t4⟩ := quo_both (P + c) d (by unfold I64 at hc; omega) (by unfold I64 at hc; omega) hd.2
  have A1 := fun w0 => add_any P c w0
  have A2 := fun w0 => radd_any P c w0
  generalize P + c = Y at *
  have HM := Lib.hid cM; have HR := Lib.hid cR; have T1 := Lib.hid t1; have T2 := Lib.hid t2; have T3 := Lib.hid t3; have T4 := Lib.hid t4; have HA1 := Lib.hid A1; have HA2 := Lib.hid A2
  clear cM cR t1 t2 t3 t4 A1 A2
  go_enter Try.func4, Try.ntmps4
  go_wp2_with fail
  refine (HM.out _).mono ?_
  rintro e w1 ⟨rfl, b1⟩
  go_wp2_with fail
  refine (HM.out _).mono ?_
  rintro e w2 ⟨rfl, b2⟩
  go_wp2_with fail
  refine (of_any c hc _).mono ?_
  rintro e w3 ⟨rfl, b3⟩
  go_wp2_with fail
  refine (HA1.out _).mono ?_
  rintro e w4 ⟨rfl, b4⟩
  have bel := bstep (bstep (bstep b1 b2) b3) b4
  clear b1 b2 b3 b4
  go_wp2_with fail
  have Cx := (Cell2.new w4 (.int .i64 (hiW P)) (.int .u64 (loW P)) 24).alloc (.cells #[.int .i64 (hiW Y), .int .u64 (loW Y)] 24)
  have Cy := Cell2.new (w4.alloc (.cells #[.int .i64 (hiW P), .int .u64 (loW P)] 24)) (.int .i64 (hiW Y)) (.int .u64 (loW Y)) 24
  have en : (w4.alloc (.cells #[.int .i64 (hiW P), .int .u64 (loW P)] 24)).heap.size = w4.heap.size + 1 := by simp
  rw [en] at Cy
  replace bel := (bel.alloc bel.size (.cells #[.int .i64 (hiW P), .int .u64 (loW P)] 24)).alloc (by rw [en]; have := bel.size; omega) (.cells #[.int .i64 (hiW Y), .int .u64 (loW Y)] 24)
  clear en
  generalize (w4.alloc (.cells #[.int .i64 (hiW P), .int .u64 (loW P)] 24)).alloc (.cells #[.int .i64 (hiW Y), .int .u64 (loW Y)] 24) = W at *
  generalize w4.heap.size + 1 = ny at *
  generalize w4.heap.size = nx at *
  refine (HR.out _).mono ?_
  rintro e w5 ⟨rfl, b5⟩
  go_wp2_with fail
  refine (rof_any c hc _).mono ?_
  rintro e w6 ⟨rfl, b6⟩
  go_wp2_with fail
  refine (HA2.out _).mono ?_
  rintro e w7 ⟨rfl, b7⟩
  replace bel := bstep (bstep (bstep bel b5) b6) b7
  replace Cx := ((Cx.below b5).below b6).below b7
  replace Cy := ((Cy.below b5).below b6).below b7
  clear b5 b6 b7
  replace Cx := Cx.alloc (.cells #[.int .i64 (hiW Y), .int .u64 (loW Y)] 24)
  replace Cy := Cy.alloc (.cells #[.int .i64 (hiW Y), .int .u64 (loW Y)] 24)
  have Cz := Cell2.new w7 (.int .i64 (hiW Y)) (.int .u64 (loW Y)) 24
  replace bel := bel.alloc bel.size (.cells #[.int .i64 (hiW Y), .int .u64 (loW Y)] 24)
  obtain ⟨_, q1, q2, _, _⟩ := id Cy
  go_wp2_with fail
  generalize w7.alloc (.cells #[.int .i64 (hiW Y), .int .u64 (loW Y)] 24) = W2 at *
  generalize w7.heap.size = nz at *
  refine (T1.out _).mono ?_
  rintro e w8 ⟨rfl, b8⟩
  replace Cx := Cx.below b8; replace Cy := Cy.below b8; replace Cz := Cz.below b8; replace bel := bstep bel b8
  clear q1 q2 b8
  obtain ⟨_, q1, q2, _, _⟩ := id Cz
  go_wp2_with fail
  refine (T2.out _).mono ?_
  rintro e w9 ⟨rfl, b9⟩
  replace Cx := Cx.below b9; replace Cy := Cy.below b9; replace Cz := Cz.below b9; replace bel := bstep bel b9
  clear q1 q2 b9
  obtain ⟨_, q1, q2, _, _⟩ := id Cy
  go_wp2_with fail
  refine (T3.out _).mono ?_
  rintro e w10 ⟨rfl, b10⟩
  replace Cx := Cx.below b10; replace Cy := Cy.below b10; replace Cz := Cz.below b10; replace bel := bstep bel b10
  clear q1 q2 b10
  obtain ⟨_, q1, q2, _, _⟩ := id Cz
  go_wp2_with fail
  refine (T4.out _).mono ?_
  rintro e W3 ⟨rfl, b11⟩
  replace Cx := Cx.below b11; replace Cy := Cy.below b11; replace Cz := Cz.below b11; replace bel := bstep bel b11
  clear q1 q2 b11
  obtain ⟨x0, x1, x2, _, _⟩ := Cx
  obtain ⟨y0, y1, y2, _, _⟩ := Cy
  obtain ⟨z0, z1, z2, _, _⟩ := Cz
  go_wp2_with fail
  go_region_held3 (fun w' => Below W3.heap.size W3 w' ∧ w'.cell? ⟨nx, 0, none⟩ = some (.int .i64 (hiW P)) ∧ w'.cell? ⟨nx, 1, none⟩ = some (.int .u64 (loW P)) ∧ w'.cell? ⟨ny, 0, none⟩ = some (.int .i64 (hiW Y)) ∧ w'.cell? ⟨ny, 1, none⟩ = some (.int .u64 (loW Y)) ∧ w'.cell? ⟨nz, 0, none⟩ = some (.int .i64 (hiW Y)) ∧ w'.cell? ⟨nz, 1, none⟩ = some (.int .u64 (loW Y))) (first | exact keepS3 (by assumption) (by assumption) x0 y0 z0 | exact ⟨(Below.refl _ _).drew, x1, x2, y1, y2, z1, z2⟩)
    (first
      | (go_at_call 16; (with_reducible refine (HR.out _).mono ?_); rintro e w' ⟨rfl, hbb⟩)
      | (go_at_call 12; (with_reducible refine (of_any c hc _).mono ?_); rintro e w' ⟨rfl, hbb⟩)
      | (go_at_call 17; (with_reducible refine (rof_any c hc _).mono ?_); rintro e w' ⟨rfl, hbb⟩)
      | (go_at_call 20; (with_reducible refine (cmp_any P Y hP hY _).mono ?_); rintro e w' ⟨rfl, hbb⟩)
      | (go_at_call 21; (with_reducible refine (rcmp_any P Y hP hY _).mono ?_); rintro e w' ⟨rfl, hbb⟩)
      | (go_at_call 3; (with_reducible refine (runs_any _).mono ?_); rintro e w' ⟨rfl, hbb⟩))
  obtain ⟨bW, -, -, -, -, -, -⟩ := ‹Below W3.heap.size W3 _ ∧ _›
  go_wp2
  go_ret
  exact ⟨rfl, bstep bel bW⟩
end Go.Proofs.Ytnjegjmcfldpnaa
