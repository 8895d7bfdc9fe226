/-
  Package store: Writer.Close.
-/
import Derived.Test.YtilmicekpclmbaaZz
namespace Go.Proofs.Ytilmicekpclmbaa
set_option linter.unusedVariables false
set_option linter.unusedSimpArgs false
set_option maxRecDepth 100000
open Go.RowKit

/-- What Close answers, and makes of the store and the writer. -/
noncomputable def closeF (s : St) (r : Wr) : (Fl × Int) × St × Wr :=
  if r.status = 0 then
    if 0 < r.file.blocks then
      ((if s.dk.says = 0 then r.file else Fl.zero, s.dk.says), { s with dk := s.dk.write r.at_.toNat ({ r.held with next := 0 } : Lf).put }, { r with held := { r.held with next := 0 }, status := s.dk.says })
    else ((r.file, 0), s, r)
  else ((Fl.zero, r.status), s, r)
theorem ret_flI {fn : Func} {R : Ending → World → Prop} {a : Act} {w : World} {b : Nat} {f : Fl} {q : Int} (i j : Nat) (hf : fn.results = #[.cell i 40, .tmp j]) (hi : a.tmps.getD i undef = .pointer (some ⟨b, 0, none⟩)) (hj : a.tmps.getD j undef = .int .i64 q) (h : FlV w b f) (hd : a.defers = [])
    (hR : R (.returned (.tuple #[.agg (flv f).toArray, .int .i64 q])) w) : bodyPost Try.prog fn R .ret a w := by
  refine bodyPost_ret (v := .tuple #[.agg (flv f).toArray, .int .i64 q]) ?_ hd hR
  unfold results
  rw [hf]
  rw [Array.getD_eq_getD_getElem?] at hi hj
  simp [hi, hj, asAddr, load_fl_run h]
/-- A result that was nothing and is set to nothing. -/
def w0s (w : World) (rb : Nat) : World := (((w.setCell ⟨rb, 0, none⟩ (.int .i64 0)).setCell ⟨rb, 1, none⟩ (.int .i64 0)).setCell ⟨rb, 2, none⟩ (.int .i64 0)).setCell ⟨rb, 3, none⟩ (.int .i64 0)
theorem w0s_at {w : World} {rb : Nat} (l : FlV w rb Fl.zero) : FlV (w0s w rb) rb Fl.zero ∧ Keep (· = rb) w (w0s w rb) :=
  ⟨(((Arr.set l 0 (.int .i64 0)).set 1 (.int .i64 0)).set 2 (.int .i64 0)).set 3 (.int .i64 0), Keep.cellF (a := ⟨rb, 3, none⟩) (Keep.cellF (a := ⟨rb, 2, none⟩) (Keep.cellF (a := ⟨rb, 1, none⟩) (Keep.cellF (a := ⟨rb, 0, none⟩) (Keep.refl (· = rb) w) rfl _) rfl _) rfl _) rfl _⟩
set_option maxHeartbeats 8000000 in
theorem wclose_any (F b s) (g : Nat) (r : Wr) (w : World) (h : StAt w F b s) (hr : WrAt w g b r) (hg : ¬ F g) (inv : WrInv s r) (hw : s.dk.wt.length ≤ 1000000) (hv : s.dk.wrote ≤ 1000000000000) :
    Calls Try.prog 24 #[.pointer (some ⟨g, 0, none⟩)] w fun e w' => e = .returned (.tuple #[.agg (flv (closeF s r).1.1).toArray, .int .i64 (closeF s r).1.2]) ∧ WrTo F b g (closeF s r).2.1 (closeF s r).2.2 w w' := by
  have B0 := Lib.hid (Below.refl w.heap.size w)
  have HR := Lib.hid hr; have HG := Lib.hid hg; have INV := Lib.hid inv; have H := Lib.hid h
  have HWT := Lib.hid hw; have HWR := Lib.hid hv
  clear h hr hg inv hw hv
  go_enter Try.func24, Try.ntmps24
  go_wp2_with (with_reducible refine alloc_fl rfl rfl ?_)
  intro w1 l1 b1 s1
  obtain ⟨rb, hrb⟩ : ∃ rb, rb = w.heap.size := ⟨_, rfl⟩
  rw [← hrb] at l1 ⊢
  have L1 := Lib.hid l1; have B1 := Lib.hid b1; have HRB := Lib.hid hrb
  have R1 := Lib.hid (HR.out.below b1)
  have S1 := Lib.hid (H.out.below b1)
  obtain ⟨x0, x1, x3, x4, x5, x10⟩ := R1.out.cells
  clear l1 b1 s1 hrb
  by_cases hs : r.status = 0
  · rw [hs] at x1
    have HS := Lib.hid hs
    by_cases hb : 0 < r.file.blocks
    · obtain ⟨⟨a, ha, hal⟩, -⟩ := INV.out.h hb
      have EB : Hid (closeF s r = ((if s.dk.says = 0 then r.file else Fl.zero, s.dk.says), { s with dk := s.dk.write a ({ r.held with next := 0 } : Lf).put }, { r with held := { r.held with next := 0 }, status := s.dk.says })) := Lib.hid (by unfold closeF; rw [if_pos HS.out, if_pos hb, ha]; rfl)
      have d0 : decide (r.file.blocks > 0) = true := by simpa using hb
      have WW := Lib.hid (wwrite_any F b s g r 0 a w1 S1.out R1.out HG.out ⟨by decide, by decide⟩ ha hal (INV.out.right hb (by decide) (by decide)) HWT.out HWR.out)
      clear hs hb ha hal
      go_wp2_with fail
      refine WW.out.mono ?_
      rintro e w2 ⟨rfl, F2, hs2, hr2, k2, sb2, hg2⟩
      have HS2 := Lib.hid hs2; have HR2 := Lib.hid hr2; have K2 := Lib.hid k2; have SB2 := Lib.hid sb2; have HG2 := Lib.hid hg2
      have NEW : Hid (¬ F rb ∧ rb ≠ g ∧ ¬ F2 rb) := Lib.hid (by
        have h1 : ¬ F rb := fun e => by have := H.out.lt _ e; have := HRB.out; omega
        have h2 := HR.out.lt
        refine ⟨h1, by have := HRB.out; omega, fun e => ?_⟩
        rcases SB2.out _ e with q | q
        · exact h1 q
        · have := L1.out.lt; omega)
      have L2 : Hid (FlV w2 rb Fl.zero) := Lib.hid (Arr.same L1.out (K2.out.block rb L1.out.lt (fun e => by rcases e with e | e; exact NEW.out.1 e; exact NEW.out.2.1 e)))
      have L3 : Hid (FlV (w2.setCell ⟨g, 1, none⟩ (.int .i64 s.dk.says)) rb Fl.zero) := Lib.hid (Arr.far L2.out NEW.out.2.1 _)
      have yz := hr2.frozen 1
      have y1 : w2.cell? ⟨g, 1, none⟩ = some (.int .i64 r.status) := hr2.cells.2.1
      have W3 := Lib.hid (hr2.status (v := s.dk.says))
      have z1 : (w2.setCell ⟨g, 1, none⟩ (.int .i64 s.dk.says)).cell? ⟨g, 1, none⟩ = some (.int .i64 s.dk.says) := W3.out.cells.2.1
      have y2 := W3.out.name
      obtain ⟨-, -, y3, y4, y5, -⟩ := W3.out.cells
      have KS : Hid (Keep (fun q => F q ∨ q = g) w (w2.setCell ⟨g, 1, none⟩ (.int .i64 s.dk.says))) := Lib.hid ((Keep.of_below B1.out).trans (Sub.refl _ _) (Keep.cellF (a := ⟨g, 1, none⟩) K2.out (Or.inr rfl) _))
      have SB : Hid (Sub F2 F w) := Lib.hid (fun q hq => by
        rcases SB2.out q hq with e | e
        · exact Or.inl e
        · right; have := B1.out.size; omega)
      have S3 : Hid (StAt (w2.setCell ⟨g, 1, none⟩ (.int .i64 s.dk.says)) F2 b { s with dk := s.dk.write a ({ r.held with next := 0 } : Lf).put }) := Lib.hid (HS2.out.other (Keep.cellF (a := ⟨g, 1, none⟩) (Keep.refl (· = g) w2) rfl _) HG2.out)
      clear WW hs2 hr2 k2 sb2 hg2 x0 x1 x3 x4 x5 x10
      rcases Dk.says_cases s.dk with hz | hz
      · have E : Hid (closeF s r = ((r.file, 0), { s with dk := s.dk.write a ({ r.held with next := 0 } : Lf).put }, { r with held := { r.held with next := 0 }, status := 0 })) := Lib.hid (by rw [EB.out, if_pos hz, hz])
        rw [hz] at W3 z1 y2 y3 y4 y5 KS S3 L3 ⊢
        clear hz
        go_wp2_with (with_reducible refine store_fl rfl _ _ rfl rb Fl.zero r.file L3.out rfl rfl ?_)
        intro w4 l4 k4 s4
        go_wp2
        refine ret_flI (b := rb) (f := r.file) (q := 0) 2 3 rfl rfl rfl l4 rfl ?_
        rw [E.out]
        refine ⟨rfl, F2, S3.out.other k4 NEW.out.2.2, W3.out.same (k4.block g W3.out.lt (fun e => NEW.out.2.1 e.symm)), ⟨k4.os.trans KS.out.os, k4.tape.trans KS.out.tape, k4.output.trans KS.out.output, Nat.le_trans KS.out.size k4.size, fun q h1 h2 => ?_⟩, SB.out, HG2.out⟩
        rw [← KS.out.block q h1 h2]
        exact k4.block q (by have := KS.out.size; omega) (fun e => by have e : q = rb := e; have := HRB.out; omega)
      · have E : Hid (closeF s r = ((Fl.zero, 7), { s with dk := s.dk.write a ({ r.held with next := 0 } : Lf).put }, { r with held := { r.held with next := 0 }, status := 7 })) := Lib.hid (by rw [EB.out, if_neg (by rw [hz]; decide), hz])
        rw [hz] at W3 z1 y2 y3 y4 y5 KS S3 L3 ⊢
        clear hz
        obtain ⟨w3, hw3⟩ : ∃ w3, w2.setCell ⟨g, 1, none⟩ (.int .i64 7) = w3 := ⟨_, rfl⟩
        rw [hw3] at W3 z1 y2 y3 y4 y5 KS S3 L3
        go_wp2
        try rw [hw3]
        obtain ⟨c0, c1, c2, c3⟩ := L3.out.cells
        have u0 := L3.out.frozen 0; have u1 := L3.out.frozen 1; have u2 := L3.out.frozen 2; have u3 := L3.out.frozen 3
        have W0 := Lib.hid (w0s_at L3.out)
        have gr : g ≠ rb := fun e => NEW.out.2.1 e.symm
        have q : (w0s w3 rb).cell? ⟨g, 1, none⟩ = some (.int .i64 7) := by rw [World.cell?_of_block (w := w3) (a := ⟨g, 1, none⟩) (W0.out.2.block g W3.out.lt gr)]; exact z1
        unfold w0s at q
        clear hw3
        go_region_held_law (fun w' => w'.cell? ⟨g, 1, none⟩ = some (.int .i64 7)) (first | exact z1 | exact q) (fail)
        go_wp2
        refine ret_flI (b := rb) (f := Fl.zero) (q := 7) 2 3 rfl rfl rfl (show FlV (w0s w3 rb).drew rb Fl.zero from W0.out.1) rfl ?_
        rw [E.out]
        have k4 : Keep (· = rb) w3 (w0s w3 rb).drew := W0.out.2.drew
        refine ⟨rfl, F2, S3.out.other k4 NEW.out.2.2, W3.out.same (k4.block g W3.out.lt gr), ⟨k4.os.trans KS.out.os, k4.tape.trans KS.out.tape, k4.output.trans KS.out.output, Nat.le_trans KS.out.size k4.size, fun q h1 h2 => ?_⟩, SB.out, HG2.out⟩
        rw [← KS.out.block q h1 h2]
        exact k4.block q (by have := KS.out.size; omega) (fun e => by have e : q = rb := e; have := HRB.out; omega)
    · have E : Hid (closeF s r = ((r.file, 0), s, r)) := Lib.hid (by unfold closeF; rw [if_pos HS.out, if_neg hb])
      have d0 : decide (r.file.blocks > 0) = false := by simpa using hb
      have x2 := R1.out.name
      clear hs hb
      go_wp2_with (with_reducible refine store_fl rfl _ _ rfl rb Fl.zero r.file L1.out rfl rfl ?_)
      intro w4 l4 k4 s4
      go_wp2
      refine ret_flI (b := rb) (f := r.file) (q := 0) 2 3 rfl rfl rfl l4 rfl ?_
      rw [E.out]
      have B : Below w.heap.size w w4 := k4.below (fun q hq => by have := HRB.out; have hq : q = rb := hq; omega) B1.out B1.out.size
      exact ⟨rfl, F, H.out.below B, HR.out.below B, Keep.of_below B, Sub.refl _ _, HG.out⟩
  · have E : Hid (closeF s r = ((Fl.zero, r.status), s, r)) := Lib.hid (by unfold closeF; rw [if_neg hs])
    have ds : (r.status == 0) = false := by simp [hs]
    obtain ⟨st, hst⟩ : ∃ st, r.status = st := ⟨_, rfl⟩
    have HST := Lib.hid hst
    rw [hst] at x1 ds
    have HRL := Lib.hid R1.out.lt
    clear hst hs
    go_wp2
    obtain ⟨c0, c1, c2, c3⟩ := L1.out.cells
    have z0 := L1.out.frozen 0; have z1 := L1.out.frozen 1; have z2 := L1.out.frozen 2; have z3 := L1.out.frozen 3
    have gr : g ≠ rb := by have := HR.out.lt; have := HRB.out; omega
    have W0 := Lib.hid (w0s_at L1.out)
    have q : (w0s w1 rb).cell? ⟨g, 1, none⟩ = some (.int .i64 st) := by rw [World.cell?_of_block (w := w1) (a := ⟨g, 1, none⟩) (W0.out.2.block g R1.out.lt gr)]; exact x1
    unfold w0s at q
    go_region_held_law (fun w' => w'.cell? ⟨g, 1, none⟩ = some (.int .i64 st)) (first | exact x1 | exact q) (fail)
    go_wp2
    refine ret_flI (b := rb) (f := Fl.zero) (q := st) 2 3 rfl rfl rfl (show FlV (w0s w1 rb).drew rb Fl.zero from W0.out.1) rfl ?_
    rw [E.out, HST.out]
    have B : Below w.heap.size w (w0s w1 rb).drew := (W0.out.2.below (fun q hq => by have := HRB.out; have hq : q = rb := hq; omega) B1.out B1.out.size).drew
    exact ⟨rfl, F, H.out.below B, HR.out.below B, Keep.of_below B, Sub.refl _ _, HG.out⟩
end Go.Proofs.Ytilmicekpclmbaa
