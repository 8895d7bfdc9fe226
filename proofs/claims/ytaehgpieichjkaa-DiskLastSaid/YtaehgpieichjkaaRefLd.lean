/-
  The document's own disk: what waits lands.
-/
import Derived.Test.YtaehgpieichjkaaRefR
import Derived.Deep.RegionHeldLaw
import Derived.Deep.RegionHeld3
import Derived.Deep.AppendLies
import Derived.BigRegion
namespace Go.Proofs.Ytaehgpieichjkaa
set_option linter.unusedVariables false
set_option linter.unusedSimpArgs false
open Go.RowKit

theorem BlkAt.keepG {w w' : World} {F F' G : Nat → Prop} {v : Value} {xs : List Int} (h : BlkAt w F v xs) (hk : Keep G w w') (hG : ∀ g cur, w.heap[g]? = some (.cells cur 5 (0, 0)) → ¬ G g) (hF : ∀ g, F g → F' g) : BlkAt w' F' v xs := by
  obtain ⟨g, c, h1, h2, h3, h4⟩ := h
  obtain ⟨c1, e1⟩ := h3.heap
  exact ⟨g, c, h1, hF g h2, hk.own h3 (hG g c1 e1), h4⟩
theorem RowA.heap {w : World} {e : TypeId} {c g : Nat} {xs : List Value} (h : RowA w e (some ⟨g, 0, none⟩) c xs) : ∃ cur, w.heap[g]? = some (.cells cur e (0, 0)) := by
  rcases h.parts with ⟨h, _⟩ | ⟨g', cur, h0, h1, _⟩
  · cases h
  · injection h0 with h0
    injection h0 with h0
    subst h0
    exact ⟨cur, h1⟩
theorem kinds_ne {w : World} {g : Nat} {c c' : Array Value} {t t' : TypeId} (h : w.heap[g]? = some (.cells c t (0, 0))) (h' : w.heap[g]? = some (.cells c' t' (0, 0))) (hne : t ≠ t') : False := by
  rw [h] at h'
  injection h' with h'
  injection h' with _ h'
  exact hne h'
/-- What is behind both stores. -/
theorem rland_ends (F : Nat → Prop) (r : Nat) (t : Dk) (p : RefP) (k a : Nat) (xs : List Int) (w w1 w2 : World) (gb gd gn cn : Nat) (h : RefL w F r t p) (hb : Below w.heap.size w w1) (hw2 : w2 = w1.setCell ⟨gb, a, none⟩ (.slice (some ⟨gn, 0, none⟩) 128 cn))
    (eb : p.AB = some ⟨gb, 0, none⟩) (ed : p.AD = some ⟨gd, 0, none⟩) (n4 : gd ≠ gb) (hp : a < t.blk.length ∧ IsBlk xs) (hx : xs.length = 128) (ho : w1.ownsRow w.heap.size 5 1 (.slice (some ⟨gn, 0, none⟩) 128 cn) 128 (vals xs)) :
    RStep F r (t.land (a, xs)) w (w2.setCell ⟨gd, a, none⟩ (.bool false)).drew := by
  have s1 := hb.size
  have hs : (w2.setCell ⟨gd, a, none⟩ (.bool false)).heap.size = w1.heap.size := by rw [setCell_size, hw2, setCell_size]
  have kG : Keep (fun j => j = gb ∨ j = gd) w (w2.setCell ⟨gd, a, none⟩ (.bool false)) := by
    rw [hw2]
    exact ((Keep.of_below hb).setCell (a := ⟨gb, a, none⟩) (Or.inl rfl) _).setCell (a := ⟨gd, a, none⟩) (Or.inr rfl) _
  have rB := h.rB
  have rD := h.rD
  rw [eb] at rB
  rw [ed] at rD
  obtain ⟨cb, xb⟩ := rB.heap
  obtain ⟨cd, xd⟩ := rD.heap
  have hG8 : ∀ g cur, w.heap[g]? = some (.cells cur 5 (0, 0)) → ¬ (g = gb ∨ g = gd) := fun g cur e k => by
    rcases k with rfl | rfl
    · exact kinds_ne e xb (by decide)
    · exact kinds_ne e xd (by decide)
  have hGa : ∀ x, p.AA = some x → ¬ (x.block = gb ∨ x.block = gd) := fun x ex k => by
    have rA := h.rA
    rcases k with k | k
    · exact h.rB.apart h.rA (by decide) _ x eb ex k.symm
    · exact h.rD.apart h.rA (by decide) _ x ed ex k.symm
  have hGw : ∀ x, p.AW = some x → ¬ (x.block = gb ∨ x.block = gd) := fun x ex k => by
    rcases k with k | k
    · exact h.ne _ x eb ex k.symm
    · exact h.rD.apart h.rW (by decide) _ x ed ex k.symm
  have og : Own (w2.setCell ⟨gd, a, none⟩ (.bool false)) 0 gn cn xs := by
    have o1 : Own w1 w.heap.size gn cn xs := ⟨by rw [hx]; exact ho, hp.2.2⟩
    have h1 := o1.lt
    have l1 : gb < w.heap.size := h.rB.lt _ eb
    have l2 : gd < w.heap.size := h.rD.lt _ ed
    have o2 : Own w2 w.heap.size gn cn xs := by rw [hw2]; exact o1.far (by omega) _
    have o3 := o2.far (h := gd) (k := a) (by omega) (.bool false)
    have o4 : RowO (w2.setCell ⟨gd, a, none⟩ (.bool false)) w.heap.size 5 (some ⟨gn, 0, none⟩) cn (vals xs) := by unfold RowO; rw [vals_length]; exact o3.1
    exact Own.of_row (RowO.of o4.row (fun _ _ => Nat.zero_le _)) hp.2.2
  have hgn : w.heap.size ≤ gn ∧ gn < w1.heap.size := by
    have o1 : Own w1 w.heap.size gn cn xs := ⟨by rw [hx]; exact ho, hp.2.2⟩
    exact o1.lt
  have st' : Arr (w2.setCell ⟨gd, a, none⟩ (.bool false)) r 47 (refCells t p) := h.st.same (kG.block r h.st.lt (fun k => by
    rcases k with k | k
    · exact h.rB.ne_arr h.st (by decide) _ eb k.symm
    · exact h.rD.ne_arr h.st (by decide) _ ed k.symm))
  have res : RefL (w2.setCell ⟨gd, a, none⟩ (.bool false)) (fun j => F j ∨ (w.heap.size ≤ j ∧ j < w1.heap.size)) r (t.land (a, xs)) { p with bs := p.bs.set a (.slice (some ⟨gn, 0, none⟩) 128 cn) } := by
    refine ⟨h.ok.land (a, xs) hp.2, ?_, ?_, ?_, fun i hi => ?_, ?_, ?_, ?_, h.lW, fun i hi => ?_, Or.inl h.fr, fun x ex => Or.inl (h.fB x ex), fun x ex => Or.inl (h.fD x ex), fun x ex => Or.inl (h.fA x ex), fun x ex => Or.inl (h.fW x ex), h.ne, fun j hj => ?_⟩
    · have e : refCells (t.land (a, xs)) { p with bs := p.bs.set a (.slice (some ⟨gn, 0, none⟩) 128 cn) } = refCells t p := by
        unfold refCells Dk.land
        simp only [List.length_set]
      rw [e]
      exact st'
    · show RowA _ _ p.AB p.cB (p.bs.set a _)
      rw [eb]
      have := ((rB.below hb).set a (.slice (some ⟨gn, 0, none⟩) 128 cn))
      rw [← hw2] at this
      exact this.other (fun x ex => by injection ex with ex; subst ex; exact fun e => n4 e.symm) _
    · show (p.bs.set a _).length = (t.land (a, xs)).blk.length
      rw [List.length_set, t.land_len]; exact h.lB
    · rw [t.land_len] at hi
      show BlkAt _ _ ((p.bs.set a _).getD i undef) ((t.blk.set a xs).getD i [])
      rw [getD_setL _ _ _ _ _ (by rw [h.lB]; exact hi), getD_setL _ _ _ _ _ hi]
      by_cases e : a = i
      · rw [if_pos e, if_pos e]
        exact ⟨gn, cn, rfl, Or.inr hgn, og, hx⟩
      · rw [if_neg e, if_neg e]
        exact (h.eB i hi).keepG kG hG8 (fun _ hg => Or.inl hg)
    · show RowA _ _ p.AD p.cD (bvals (t.bad.set a false))
      rw [ed, ← bvals_set]
      have := (rD.below hb).other (r := gb) (k := a) (fun x ex => by injection ex with ex; subst ex; exact n4) (.slice (some ⟨gn, 0, none⟩) 128 cn)
      rw [← hw2] at this
      exact this.set a _
    · exact h.rA.same (fun x ex => kG.block _ (h.rA.lt x ex) (hGa x ex))
    · exact h.rW.same (fun x ex => kG.block _ (h.rW.lt x ex) (hGw x ex))
    · exact (h.eW i hi).keepG kG hG8 (fun _ hg => Or.inl hg)
    · rw [hs]
      rcases hj with hj | hj
      · have := h.lt j hj; omega
      · exact hj.2
  have kF : Keep F w (w2.setCell ⟨gd, a, none⟩ (.bool false)) := by
    refine ⟨kG.os, kG.tape, kG.output, kG.size, fun j hj hn => kG.block j hj (fun e => hn ?_)⟩
    rcases e with rfl | rfl
    · exact h.fB _ eb
    · exact h.fD _ ed
  exact ⟨_, ⟨_, res.stay (fun _ _ => rfl) (Nat.le_refl _)⟩, kF.drew, fun j hj => hj.imp id And.left⟩
theorem cell_set_ne (w : World) {b b' : Nat} (o o' : Nat) (v : Value) (h : b' ≠ b) : (w.setCell ⟨b, o, none⟩ v).cell? ⟨b', o', none⟩ = w.cell? ⟨b', o', none⟩ :=
  World.cell?_of_block (w := w) (Below.heap_setCell _ _ _ _ h)
set_option maxRecDepth 100000 in
set_option maxHeartbeats 4000000 in
theorem rland_any (F : Nat → Prop) (r : Nat) (t : Dk) (p : RefP) (k : Nat) (w : World) (h : RefL w F r t p) (hk : k < t.wt.length) (hw : t.wt.length ≤ 1000000) :
    Calls Try.prog 36 #[.pointer (some ⟨r, 0, none⟩), .int .i64 k] w fun e w' => e = .returned (.tuple #[]) ∧ RStep F r (t.land (t.wt.getD k (0, []))) w w' := by
  have c0 : w.cell? ⟨r, 0, none⟩ = some (.slice p.AB t.blk.length p.cB) := h.st.cell 0
  have c1 : w.cell? ⟨r, 1, none⟩ = some (.slice p.AD t.blk.length p.cD) := h.st.cell 1
  have c2 : w.cell? ⟨r, 2, none⟩ = some (.slice p.AA t.wt.length p.cA) := h.st.cell 2
  have c3 : w.cell? ⟨r, 3, none⟩ = some (.slice p.AW t.wt.length p.cW) := h.st.cell 3
  have hrl : r < w.heap.size := h.st.lt
  have l1 := h.ok.n1
  have l2 := h.ok.n2
  have hp := h.ok.wts (t.wt.getD k (0, [])) (by rw [List.getD_eq_getElem?_getD, List.getElem?_eq_getElem hk]; exact List.getElem_mem hk)
  obtain ⟨ga, ea, hga⟩ := h.rA.at (by rw [ivals_len, List.length_map]; omega)
  have ya := (hga k).2 (by rw [ivals_len, List.length_map]; exact hk)
  rw [ivals_at _ k (by rw [List.length_map]; exact hk), getD_map1 _ _ hk] at ya
  obtain ⟨gw, ew, hgw⟩ := h.rW.at (by rw [h.lW]; omega)
  have yw := (hgw k).2 (by rw [h.lW]; exact hk)
  rw [getD_at _ _ undef (by rw [h.lW]; exact hk)] at yw
  obtain ⟨g, c, e1, hFg, o1, hx1⟩ := h.eW k hk
  rw [e1] at yw
  obtain ⟨gb, eb, hgb⟩ := h.rB.at (by rw [h.lB]; omega)
  obtain ⟨gd, ed, hgd⟩ := h.rD.at (by rw [bvals_len, h.ok.nb]; omega)
  rw [eb] at c0
  rw [ed] at c1
  rw [ea] at c2
  rw [ew] at c3
  have H := Lib.hid h
  obtain ⟨⟨a, xs⟩, hpe⟩ : ∃ q, q = t.wt.getD k (0, []) := ⟨_, rfl⟩
  rw [← hpe] at hp ya o1 hx1 ⊢
  have yb := (hgb a).2 (by rw [h.lB]; exact hp.1)
  rw [getD_at _ _ undef (by rw [h.lB]; exact hp.1)] at yb
  have fb := (hgb a).1
  have yd := (hgd a).2 (by rw [bvals_len, h.ok.nb]; exact hp.1)
  rw [bvals_at t.bad a (by rw [h.ok.nb]; exact hp.1)] at yd
  have fd := (hgd a).1
  have la := h.rA.lt _ ea
  have lw := h.rW.lt _ ew
  have lb := h.rB.lt _ eb
  have ld := h.rD.lt _ ed
  have lg := o1.lt.2
  have la : ga < w.heap.size := la
  have lw : gw < w.heap.size := lw
  have lb : gb < w.heap.size := lb
  have ld : gd < w.heap.size := ld
  have n1 : r ≠ gb := fun e => h.rB.ne_arr h.st (by decide) _ eb e.symm
  have n2 : ga ≠ gb := fun e => h.rB.apart h.rA (by decide) _ _ eb ea e.symm
  have n3 : gw ≠ gb := fun e => h.ne _ _ eb ew e.symm
  have n4 : gd ≠ gb := fun e => h.rB.apart h.rD (by decide) _ _ eb ed e.symm
  have HP := Lib.hid hp; have O1 := Lib.hid o1; have HX1 := Lib.hid hx1; have HPE := Lib.hid hpe
  have LX : Hid ((vals xs).length = 128 * 1) := Lib.hid (by rw [vals_length]; exact hx1)
  have i1 : (k : Int) < (t.wt.length : Int) := by omega
  have i2 : (a : Int) < (t.blk.length : Int) := by have := hp.1; omega
  have i3 : (0 : Int) ≤ (k : Int) := by omega
  have i4 : (0 : Int) ≤ (a : Int) := by omega
  generalize p.bs.getD a undef = vb at yb
  generalize t.bad.getD a false = vd at yd
  clear h hp e1 hgb hgd hga hgw o1 hx1 hpe
  generalize hm : t.blk.length = m at *
  have HM := Lib.hid hm
  clear hm
  generalize hq : t.wt.length = q at *
  have HQ := Lib.hid hq
  clear hq
  obtain ⟨j0, hj0, hz0, hz1, hz2⟩ := info_parts Try.info_byte
  go_enter Try.func36, Try.ntmps36
  go_wp2_with fail
  go_region_held_law (fun w' => w'.cell? ⟨r, 0, none⟩ = some (.slice (some ⟨gb, 0, none⟩) m p.cB) ∧ w'.cell? ⟨r, 2, none⟩ = some (.slice (some ⟨ga, 0, none⟩) q p.cA) ∧ w'.cell? ⟨r, 3, none⟩ = some (.slice (some ⟨gw, 0, none⟩) q p.cW) ∧ w'.cell? ⟨ga, k, none⟩ = some (.int .i64 (a : Int)) ∧ w'.cell? ⟨gw, k, none⟩ = some (.slice (some ⟨g, 0, none⟩) 128 c))
    (first
      | go_keep
      | (go_split_ands
         refine ⟨?_, ?_, ?_, ?_, ?_⟩
         · (rw [cell_set_ne _ _ _ _ n1]; assumption)
         · (rw [cell_set_ne _ _ _ _ n1]; assumption)
         · (rw [cell_set_ne _ _ _ _ n1]; assumption)
         · (rw [cell_set_ne _ _ _ _ n2]; assumption)
         · (rw [cell_set_ne _ _ _ _ n3]; assumption))
      | (go_split_ands
         refine ⟨?_, ?_, ?_, ?_, ?_⟩
         · (rw [hgrow.cell_far _ (by simp; omega) (fun e => by have e : some r = some w.heap.size := e; injection e with e; omega)]; assumption)
         · (rw [hgrow.cell_far _ (by simp; omega) (fun e => by have e : some r = some w.heap.size := e; injection e with e; omega)]; assumption)
         · (rw [hgrow.cell_far _ (by simp; omega) (fun e => by have e : some r = some w.heap.size := e; injection e with e; omega)]; assumption)
         · (rw [hgrow.cell_far _ (by simp; omega) (fun e => by have e : some ga = some w.heap.size := e; injection e with e; omega)]; assumption)
         · (rw [hgrow.cell_far _ (by simp; omega) (fun e => by have e : some gw = some w.heap.size := e; injection e with e; omega)]; assumption)))
    ((refine step_append_lies _ (by rfl) _ _ _ (by rfl) w.heap.size 5 j0 _ 1 1 Try.underlying26 hj0 hz0 hz1 hz2 rfl (by decide) (.slice (some ⟨w.heap.size, 0, none⟩) 0 0) 0 [] (by rfl) ((RowO.empty w _ _ (Nat.le_refl _)).drew) ⟨g, 0, none⟩ 128 c (vals xs) (by rfl) LX.out ((RdB.src (c := c) ((O1.out.alloc _).drew.reads) (fun e => by cases e)).2 _ rfl) (vals_one xs) (by decide) (by decide) (by decide) (by simp) (w.heap.size + 1) (by simp) ?_; intro gn cn w1 hown1 hgrow hat hlt; have hbel : Below w.heap.size w w1 := Below.grown ((Below.alloc (Below.refl _ w) (Nat.le_refl _) (.cells #[] 5)).drew) hgrow (by simp) (own_ge (RowO.empty w 5 w.heap.size (Nat.le_refl _)) (Nat.le_refl _)); have yb1 : w1.cell? ⟨gb, a, none⟩ = some vb := (hbel.cell (p := ⟨gb, a, none⟩) lb).trans yb; have fb1 : w1.frozen? ⟨gb, a, none⟩ = false := (hbel.frozen (p := ⟨gb, a, none⟩) lb).trans fb))
  obtain ⟨w2, hw2⟩ : ∃ w2, w2 = w1.setCell ⟨gb, a, none⟩ (.slice (some ⟨gn, 0, none⟩) 128 cn) := ⟨_, rfl⟩
  rw [← hw2]
  have s1 : w.heap.size ≤ w1.heap.size := hbel.size
  have s2 : w2.heap.size = w1.heap.size := by rw [hw2, setCell_size]
  have m1 : w2.cell? ⟨r, 1, none⟩ = some (.slice (some ⟨gd, 0, none⟩) m p.cD) := by rw [hw2, cell_set_ne _ _ _ _ n1, hbel.cell (p := ⟨r, 1, none⟩) hrl]; exact c1
  have m2 : w2.cell? ⟨r, 2, none⟩ = some (.slice (some ⟨ga, 0, none⟩) q p.cA) := by rw [hw2, cell_set_ne _ _ _ _ n1, hbel.cell (p := ⟨r, 2, none⟩) hrl]; exact c2
  have m3 : w2.cell? ⟨ga, k, none⟩ = some (.int .i64 (a : Int)) := by rw [hw2, cell_set_ne _ _ _ _ n2, hbel.cell (p := ⟨ga, k, none⟩) la]; exact ya
  have m4 : w2.cell? ⟨gd, a, none⟩ = some (.bool vd) := by rw [hw2, cell_set_ne _ _ _ _ n4, hbel.cell (p := ⟨gd, a, none⟩) ld]; exact yd
  have m5 : w2.frozen? ⟨gd, a, none⟩ = false := by rw [hw2, World.frozen?_of_block (w := w1) (a := ⟨gd, a, none⟩) (Below.heap_setCell _ _ _ _ n4), hbel.frozen (p := ⟨gd, a, none⟩) ld]; exact fd
  have HBEL := Lib.hid hbel; have HW2 := Lib.hid hw2; have OWN1 := Lib.hid hown1
  clear c0 c1 c2 c3 ya yw yb fb yd fd yb1 fb1 hbel hw2 hown1 hgrow hat hlt
  go_wp2_with fail
  go_region
  all_goals
    go_wp2
    go_end0
    refine ⟨rfl, ?_⟩
    exact rland_ends F r t p k a xs w w1 w2 gb gd gn cn H.out HBEL.out HW2.out eb ed n4 (by rw [HM.out]; exact HP.out) HX1.out OWN1.out
end Go.Proofs.Ytaehgpieichjkaa
