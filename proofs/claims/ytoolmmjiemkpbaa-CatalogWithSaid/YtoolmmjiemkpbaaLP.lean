/-
  The contracts of package leaf's putTwo and Put: Put of a right leaf is its block, in new memory; of another one none.
-/
import Derived.Test.YtoolmmjiemkpbaaLR
import Derived.Test.YtoolmmjiemkpbaaBU
import Derived.Deep.RegionLaw
import Derived.Deep.RegionWith
namespace Go.Proofs.Ytoolmmjiemkpbaa
set_option linter.unusedVariables false
set_option linter.unusedSimpArgs false
open Go.RowKit

theorem Own.base {w : World} {base base' g cap : Nat} {xs : List Int} (h : Own w base g cap xs) (hb : base' ≤ base) : Own w base' g cap xs := by
  refine ⟨⟨h.1.1, ?_⟩, h.2⟩
  rcases h.1.2 with e | ⟨g', c', cur, e, h1, h2⟩
  · exact Or.inl e
  · exact Or.inr ⟨g', c', cur, e, by omega, h2⟩
/-- Two bytes of a number, in their places. -/
theorem putTwo_any (g : Nat) (t : TypeId) (m at_ : Nat) (n : Int) (xs : List Int) (w : World) (ha : Arr w g t (vals xs)) (hl : xs.length = m) (hm : m ≤ 1000) (hat : at_ + 1 < m) (h0 : 0 ≤ n) (h1 : n ≤ 65535) :
    Calls Try.prog 99 #[.slice (some ⟨g, 0, none⟩) m m, .int .i64 at_, .int .i64 n] w fun e w' => e = .returned (.tuple #[]) ∧ w' = (w.setCell ⟨g, at_, none⟩ (.int .u8 (n % 256))).setCell ⟨g, at_ + 1, none⟩ (.int .u8 (n / 256 % 256)) := by
  obtain ⟨x0, hx0⟩ : ∃ x0, n % 256 = x0 := ⟨_, rfl⟩
  obtain ⟨x1, hx1⟩ : ∃ x1, n / 256 % 256 = x1 := ⟨_, rfl⟩
  have ax := ha.set at_ (.int .u8 x0)
  rw [vals_set] at ax
  have c0 : w.cell? ⟨g, at_, none⟩ = some (.int .u8 (xs.getD at_ 0)) := (ha.cell at_).trans (vals_at xs at_ (by omega))
  have c1 : (w.setCell ⟨g, at_, none⟩ (.int .u8 x0)).cell? ⟨g, at_ + 1, none⟩ = some (.int .u8 ((xs.set at_ x0).getD (at_ + 1) 0)) := (ax.cell _).trans (vals_at _ _ (by rw [List.length_set]; omega))
  have f0 := ha.frozen at_
  have f1 := ax.frozen (at_ + 1)
  generalize xs.getD at_ 0 = y0 at *
  generalize (xs.set at_ x0).getD (at_ + 1) 0 = y1 at *
  have hn : n / 256 % 256 = n / 256 := by omega
  have HN := Lib.hid hn
  rw [hx0, hx1]
  have e3 : (n / 256 : Int) = x1 := by rw [← hx1, hn]
  have b1 : 0 ≤ x1 ∧ x1 ≤ 255 := by omega
  have b0 : 0 ≤ x0 ∧ x0 ≤ 255 := by omega
  have i1 : (at_ : Int) + 1 < (m : Int) := by omega
  have i0 : (at_ : Int) < (m : Int) := by omega
  have i2 : ((at_ : Int) + 1).toNat = at_ + 1 := by omega
  have w8 : IntKind.u8.wrap x1 = x1 := by rw [IntKind.wrap_u8]; omega
  clear ha ax hl hn hx1
  go_enter Try.func99, Try.ntmps99
  go_wp2
  go_end0
  exact ⟨rfl, rfl⟩
theorem Arr.two {w : World} {g : Nat} {t : TypeId} {xs : List Int} (ha : Arr w g t (vals xs)) (k : Nat) (x y : Int) : Arr ((w.setCell ⟨g, k, none⟩ (.int .u8 x)).setCell ⟨g, k + 1, none⟩ (.int .u8 y)) g t (vals ((xs.set k x).set (k + 1) y)) := by
  have := (ha.set k (.int .u8 x)).set (k + 1) (.int .u8 y)
  rw [vals_set, vals_set] at this
  exact this
theorem Keep.cellF {F : Nat → Prop} {w w' : World} (h : Keep F w w') {a : Addr} (hF : F a.block) (v : Value) : Keep F w (w'.setCell a v) :=
  ⟨h.os, h.tape, h.output, by simpa [World.setCell] using h.size, fun k hk hn => by
    rw [← h.block k hk hn]
    exact Below.heap_setCell _ _ _ _ (fun e => hn (by rw [e]; exact hF))⟩
/-- The bytes in their places; nothing else turns. -/
theorem putTwo_arr (g : Nat) (t : TypeId) (m at_ : Nat) (n : Int) (xs : List Int) (w : World) (ha : Arr w g t (vals xs)) (hl : xs.length = m) (hm : m ≤ 1000) (hat : at_ + 1 < m) (h0 : 0 ≤ n) (h1 : n ≤ 65535) :
    Calls Try.prog 99 #[.slice (some ⟨g, 0, none⟩) m m, .int .i64 at_, .int .i64 n] w fun e w' => e = .returned (.tuple #[]) ∧ Arr w' g t (vals ((xs.set at_ (n % 256)).set (at_ + 1) (n / 256 % 256))) ∧ Keep (· = g) w w' :=
  (putTwo_any g t m at_ n xs w ha hl hm hat h0 h1).mono fun e w' ⟨he, hw⟩ => ⟨he, by rw [hw]; exact ha.two _ _ _, by rw [hw]; exact ((Keep.refl (· = g) w).cellF (a := ⟨g, at_, none⟩) rfl _).cellF (a := ⟨g, at_ + 1, none⟩) rfl _⟩
theorem Try.zero_124 : (Try.prog.info? 153).map (fun i => (i.zero, i.size)) = some (some (.agg (vals (zeros 124)).toArray), 124) := by kernel_rfl
theorem zero_124_run : ∃ Z : Array Value, (∀ w, (zeroValue 153).run Try.prog w = .ok (.agg Z) w) ∧ Hid (Z = (vals (zeros 124)).toArray) :=
  ⟨_, (zero_of_info Try.zero_124).1, Lib.hid rfl⟩
theorem put_no (L : Lf) (h : L.Ok) (hr : L.rt = false) (w : World) :
    Calls Try.prog 73 #[.agg (lv L).toArray] w fun e w' => e = .returned (.slice none 0 0) ∧ Below w.heap.size w w' := by
  have H := Lib.hid h; have HR := Lib.hid hr
  have RT := Lib.hid (fun w0 => right_any L h w0)
  clear h hr
  go_enter Try.func73, Try.ntmps73
  go_wp2_with (with_reducible refine box_leaf rfl _ rfl L H.out rfl ?_)
  intro w1 l1 b1 s1
  obtain ⟨b, hb⟩ : ∃ b, b = w.heap.size := ⟨_, rfl⟩
  rw [← hb] at l1 ⊢
  have L1 := Lib.hid l1; have B1 := Lib.hid b1
  clear hb b1 s1 l1
  go_wp2_with (with_reducible refine load_leaf rfl _ rfl b L L1.out rfl ?_)
  refine (RT.out w1).mono ?_
  rintro e w2 ⟨rfl, b2⟩
  rw [HR.out]
  have B2 := Lib.hid (bstep B1.out b2)
  clear b2
  go_wp2
  go_ret
  exact ⟨rfl, B2.out⟩
theorem body_sets {xs : List Int} (h : xs.length = 116) (a b c d e f s k : Int) : ((((((((xs ++ zeros 8).set 116 a).set (116 + 1) b).set 118 c).set (118 + 1) d).set 120 e).set (120 + 1) f).set 122 s).set 123 k = xs ++ [a, b, c, d, e, f, s, k] := by
  rw [List.set_append_right _ _ (by omega), List.set_append_right _ _ (by omega), List.set_append_right _ _ (by omega), List.set_append_right _ _ (by omega), List.set_append_right _ _ (by omega), List.set_append_right _ _ (by omega), List.set_append_right _ _ (by omega), List.set_append_right _ _ (by omega), h]
  rfl
/-- An array of bytes, as a slice that reads. -/
theorem Arr.reads {w : World} {g : Nat} {t : TypeId} {xs : List Int} (ha : Arr w g t (vals xs)) (hu : ∀ k, k < xs.length → U8 (xs.getD k 0)) : RdB w w.heap.size (some ⟨g, 0, none⟩) xs := fun k hk =>
  ⟨g, 0, rfl, ha.lt, by rw [Nat.zero_add]; exact (ha.cell k).trans (vals_at xs k hk), hu k hk⟩
/-- What Put leaves of a right leaf. -/
def PutL (w : World) (L : Lf) (e : Ending) (w' : World) : Prop :=
  ∃ g c, e = .returned (.slice (some ⟨g, 0, none⟩) 128 c) ∧ Own w' w.heap.size g c L.put ∧ Below w.heap.size w w'
set_option maxHeartbeats 800000 in
theorem put_yes (L : Lf) (h : L.Ok) (hr : L.rt = true) (w : World) :
    Calls Try.prog 73 #[.agg (lv L).toArray] w (PutL w L) := by
  have H := Lib.hid h; have HR := Lib.hid hr
  have RT := Lib.hid (fun w0 => right_any L h w0)
  have RG := Lib.hid ((Lf.rt_iff h).1 hr)
  have LL : Hid ((vals L.load).length = 116) := Lib.hid (by rw [vals_length, h.l])
  clear h hr
  obtain ⟨Z, hz, HZ⟩ := zero_124_run
  go_enter Try.func73, Try.ntmps73
  go_wp2_with (with_reducible refine box_leaf rfl _ rfl L H.out rfl ?_)
  intro w1 l1 b1 s1
  obtain ⟨b, hb⟩ : ∃ b, b = w.heap.size := ⟨_, rfl⟩
  rw [← hb] at l1 ⊢
  have L1 := Lib.hid l1; have B1 := Lib.hid b1
  have hbw : w.heap.size ≤ b := by omega
  clear hb b1 s1 l1
  go_wp2_with (with_reducible refine load_leaf rfl _ rfl b L L1.out rfl ?_)
  refine (RT.out w1).mono ?_
  rintro e w2 ⟨rfl, b2⟩
  rw [HR.out]
  have L2 := Lib.hid (L1.out.below b2)
  have B2 := Lib.hid (bstep B1.out b2)
  clear b2
  go_wp2_with fail
  obtain ⟨g, hg⟩ : ∃ g, g = w2.heap.size := ⟨_, rfl⟩
  obtain ⟨w3, hw3⟩ : ∃ w3, w3 = w2.alloc (.cells Z 153) := ⟨_, rfl⟩
  have A3 : Hid (Arr w3 g 153 (vals (zeros 124))) := Lib.hid (by rw [hw3, hg, HZ.out]; exact Arr.new w2 _ _)
  have L3 : Hid (LfAt w3 b L) := Lib.hid (by rw [hw3]; exact L2.out.alloc _)
  have B3 : Hid (Below w.heap.size w w3) := Lib.hid (by rw [hw3]; exact B2.out.alloc B2.out.size _)
  have hbg : b < g := by have := L2.out.lt; omega
  have hgw : w.heap.size ≤ g := by omega
  rw [← hw3, ← hg]
  clear hw3 hg L1 L2 B1 B2 hz HZ
  obtain ⟨V, hV⟩ : ∃ V, V = vals L.load := ⟨_, rfl⟩
  have VL : Hid (V.length = 116) := Lib.hid (by rw [hV]; exact LL.out)
  have V1 : Hid (∀ v ∈ V, v.oneCell' = true) := Lib.hid (by rw [hV]; exact vals_one _)
  have VR : Hid (∀ j v, V[j]? = some v → w3.drew.cell? ((⟨b, 5, none⟩ : Addr).add j) = some v) := Lib.hid (by rw [hV]; exact fun j v hv => L3.out.reads.news j v hv)
  obtain ⟨Y, hY⟩ : ∃ Y, Y = vals (zeros 124) := ⟨_, rfl⟩
  have YA : Hid (w3.drew.heap[g]? = some (.cells Y.toArray 153 (0, 0))) := Lib.hid (by rw [hY]; exact A3.out)
  have YL : Hid (0 + V.length ≤ Y.length) := Lib.hid (by rw [hY, VL.out, vals_length, zeros_length]; decide)
  have HV := Lib.hid hV; have HY := Lib.hid hY
  clear hV hY
  have hsz : (Try.prog.info? 5).map (·.size) = some 1 := by kernel_rfl
  go_region_law (refine step_copy_splice rfl (.tmp 7) (.tmp 9) 43 43 rfl 5 Try.underlying43 hsz (some ⟨g, 0, none⟩) (some ⟨b, 5, none⟩) 124 124 116 116 (by rfl) (by rfl) g 0 Y 153 YA.out V VL.out (fun _ => ⟨rfl, _, rfl, VR.out⟩) YL.out V1.out g w3.drew (Below.refl _ _) (Nat.le_refl _) ?_; intro w4 hg4 hb4)
  have A4 : Hid (Arr w4 g 153 (vals (L.load ++ zeros 8))) := Lib.hid (by
    have := hg4.out
    rw [HY.out, HV.out] at this
    have e : splice (vals (zeros 124)) 0 (vals L.load) = vals (L.load ++ zeros 8) := by
      unfold splice
      rw [List.take_zero, List.nil_append, Nat.zero_add, LL.out, ← vals_append]
      congr 1
    rw [e] at this
    exact this)
  have L4 : Hid (LfAt w4 b L) := Lib.hid (L3.out.same (hb4.block b hbg))
  have B4 : Hid (Below w.heap.size w w4) := Lib.hid (B3.out.drew.trans (hb4.mono hgw))
  clear hg4 hb4 A3 L3 B3 VL V1 VR YA YL HV HY hsz
  obtain ⟨rk, ⟨f0, f1⟩, ⟨p0, p1⟩, ⟨n0, n1⟩, ⟨s0, s1⟩, _⟩ := RG.out
  obtain ⟨X0, hX0⟩ : ∃ X0, X0 = L.load ++ zeros 8 := ⟨_, rfl⟩
  rw [← hX0] at A4
  have Q0 : Hid (X0.length = 124) := Lib.hid (by rw [hX0, List.length_append, H.out.l]; rfl)
  have HX0 := Lib.hid hX0
  clear hX0
  have c1 := L4.out.file
  have PT := Lib.hid (putTwo_arr g 153 124 116 L.file X0 w4.drew A4.out Q0.out (by decide) (by decide) f0 f1)
  go_wp2_with fail
  go_region_with ((go_at_call 99; refine PT.out.mono ?_; rintro e w5 ⟨rfl, a5, k5⟩; have A5 := Lib.hid a5; have K5 := Lib.hid k5; clear a5 k5))
  have L5 : Hid (LfAt w5 b L) := Lib.hid (L4.out.same (K5.out.block b L4.out.lt (by omega)))
  have B5 : Hid (Below w.heap.size w w5) := Lib.hid (K5.out.below (fun k hk => by omega) B4.out.drew B4.out.size)
  obtain ⟨X1, hX1⟩ : ∃ X1, X1 = (X0.set 116 (L.file % 256)).set (116 + 1) (L.file / 256 % 256) := ⟨_, rfl⟩
  rw [← hX1] at A5
  have Q1 : Hid (X1.length = 124) := Lib.hid (by rw [hX1, List.length_set, List.length_set]; exact Q0.out)
  have HX1 := Lib.hid hX1
  clear hX1 c1 PT A4 L4 B4 K5 Q0
  have c1 := L5.out.place
  have PT := Lib.hid (putTwo_arr g 153 124 118 L.place X1 w5.drew A5.out Q1.out (by decide) (by decide) p0 p1)
  go_wp2_with fail
  go_region_with ((go_at_call 99; refine PT.out.mono ?_; rintro e w6 ⟨rfl, a5, k5⟩; have A6 := Lib.hid a5; have K5 := Lib.hid k5; clear a5 k5))
  have L6 : Hid (LfAt w6 b L) := Lib.hid (L5.out.same (K5.out.block b L5.out.lt (by omega)))
  have B6 : Hid (Below w.heap.size w w6) := Lib.hid (K5.out.below (fun k hk => by omega) B5.out.drew B5.out.size)
  obtain ⟨X2, hX2⟩ : ∃ X2, X2 = (X1.set 118 (L.place % 256)).set (118 + 1) (L.place / 256 % 256) := ⟨_, rfl⟩
  rw [← hX2] at A6
  have Q2 : Hid (X2.length = 124) := Lib.hid (by rw [hX2, List.length_set, List.length_set]; exact Q1.out)
  have HX2 := Lib.hid hX2
  clear hX2 c1 PT A5 L5 B5 K5 Q1
  have c1 := L6.out.next
  have PT := Lib.hid (putTwo_arr g 153 124 120 L.next X2 w6.drew A6.out Q2.out (by decide) (by decide) n0 n1)
  go_wp2_with fail
  go_region_with ((go_at_call 99; refine PT.out.mono ?_; rintro e w7 ⟨rfl, a5, k5⟩; have A7 := Lib.hid a5; have K5 := Lib.hid k5; clear a5 k5))
  have L7 : Hid (LfAt w7 b L) := Lib.hid (L6.out.same (K5.out.block b L6.out.lt (by omega)))
  have B7 : Hid (Below w.heap.size w w7) := Lib.hid (K5.out.below (fun k hk => by omega) B6.out.drew B6.out.size)
  obtain ⟨X3, hX3⟩ : ∃ X3, X3 = (X2.set 120 (L.next % 256)).set (120 + 1) (L.next / 256 % 256) := ⟨_, rfl⟩
  rw [← hX3] at A7
  have Q3 : Hid (X3.length = 124) := Lib.hid (by rw [hX3, List.length_set, List.length_set]; exact Q2.out)
  have HX3 := Lib.hid hX3
  clear hX3 c1 PT A6 L6 B6 K5 Q2
  have c4 := L7.out.size
  have kb : 1 ≤ L.kind ∧ L.kind ≤ 2 := by omega
  obtain ⟨kb0, kb1⟩ := kb
  have y1 : w7.cell? ⟨g, 122, none⟩ = some (.int .u8 (X3.getD 122 0)) := (A7.out.cell 122).trans (vals_at X3 122 (by rw [Q3.out]; decide))
  have z1 := A7.out.frozen 122
  have a8 := A7.out.set 122 (.int .u8 L.size)
  rw [vals_set] at a8
  have l8 := L7.out.far (g := g) (k := 122) (by omega) (.int .u8 L.size)
  have c0 := l8.kind
  have y2 : (w7.setCell ⟨g, 122, none⟩ (.int .u8 L.size)).cell? ⟨g, 123, none⟩ = some (.int .u8 ((X3.set 122 L.size).getD 123 0)) := (a8.cell 123).trans (vals_at _ 123 (by rw [List.length_set, Q3.out]; decide))
  have z2 := a8.frozen 123
  have a9 := a8.set 123 (.int .u8 L.kind)
  rw [vals_set] at a9
  obtain ⟨X, hX⟩ : ∃ X, X = (X3.set 122 L.size).set 123 L.kind := ⟨_, rfl⟩
  rw [← hX] at a9
  have XB : Hid (X = L.body) := Lib.hid (by
    rw [hX, HX3.out, HX2.out, HX1.out, HX0.out, body_sets H.out.l]
    rfl)
  clear hX
  have XU : Hid (∀ k, k < X.length → U8 (X.getD k 0)) := Lib.hid (by rw [XB.out]; exact Lf.body_u8 H.out RG.out)
  have XL : Hid (X.length = 124) := Lib.hid (by rw [XB.out]; exact Lf.body_len H.out)
  have A9 := Lib.hid a9; have L8 := Lib.hid l8
  have B9 : Hid (Below w.heap.size w ((w7.setCell ⟨g, 122, none⟩ (.int .u8 L.size)).setCell ⟨g, 123, none⟩ (.int .u8 L.kind))) := Lib.hid ((B7.out.setCell (p := ⟨g, 122, none⟩) hgw _).setCell (p := ⟨g, 123, none⟩) hgw _)
  clear a8 l8 a9 L7 A7 Q3 HX0 HX1 HX2 HX3
  have CL := Lib.hid (close_any _ (some ⟨g, 0, none⟩) 124 124 X XL.out (by decide) _ (A9.out.reads XU.out) (Nat.le_refl _) (fun e => by cases e))
  go_wp2_with fail
  refine CL.out.mono ?_
  rintro e w8 ⟨gg, c, rfl, ow, bw⟩
  have OW : Hid (Own w8 w.heap.size gg c L.put) := Lib.hid (by
    have := ow.base (base' := w.heap.size) B9.out.size
    rw [XB.out] at this
    exact this)
  have BW := Lib.hid (bstep B9.out bw)
  clear ow bw
  go_wp2
  go_ret
  exact ⟨gg, c, rfl, OW.out, BW.out⟩
end Go.Proofs.Ytoolmmjiemkpbaa
