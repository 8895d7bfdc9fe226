/-
  The contract of package catalog's With: the files of put in the place of those of their names, without those of the names in gone; in new memory.
-/
import Derived.Test.YtjiigbmfbmkhjaaCWa
import Derived.Test.YtjiigbmfbmkhjaaCPd
namespace Go.Proofs.Ytjiigbmfbmkhjaa
set_option linter.unusedVariables false
set_option linter.unusedSimpArgs false
set_option maxRecDepth 100000
open Go.RowKit

theorem CtAt.fk {w w' : World} {b n cap g' : Nat} {c : Ct} {A A3 : Option Addr} (h : CtAt w b c A n cap) (k : FlKeep A3 g' w w') (hne : ∀ a, A3 = some a → b ≠ a.block) : CtAt w' b c A n cap := by
  unfold CtAt Arr at *
  rw [k.1.block b (by
    rcases Nat.lt_or_ge b w.heap.size with e | e
    · exact e
    · rw [Array.getElem?_eq_none (by exact e)] at h; cases h) (fun ⟨a, ha, e⟩ => hne a ha e)]
  exact h
theorem ct_ne_f {w : World} {b n cap base m c1 : Nat} {c : Ct} {A A1 : Option Addr} {l : List Fl} (h : CtAt w b c A n cap) (o : OwnF w base A1 m c1 l) (a : Addr) (ha : A1 = some a) : b ≠ a.block := fun e => (o.1.ne (r := b) (T := 29) h (by decide) a ha) e.symm
theorem ct_ne_i {w : World} {b n cap base m c1 : Nat} {c : Ct} {A A1 : Option Addr} {l : List Int} (h : CtAt w b c A n cap) (o : OwnI w base A1 m c1 l) (a : Addr) (ha : A1 = some a) : b ≠ a.block := fun e => (o.1.ne (r := b) (T := 29) h (by decide) a ha) e.symm
theorem f_ne_i {w : World} {base m c1 base' m' c' : Nat} {A1 A2 : Option Addr} {l : List Fl} {l' : List Int} (h : OwnF w base A1 m c1 l) (o : OwnI w base' A2 m' c' l') (a b : Addr) (ha : A1 = some a) (hb : A2 = some b) : a.block ≠ b.block := fun e => by
  obtain ⟨cur, hc⟩ := h.1.kind a ha
  exact (o.1.ne (r := a.block) (T := 25) hc (by decide) b hb) e.symm
theorem OwnI.weak {w : World} {base base' : Nat} {A : Option Addr} {n cap : Nat} {l : List Int} (h : OwnI w base A n cap l) (k : ∀ a, A = some a → base' ≤ a.block) : OwnI w base' A n cap l := ⟨h.1.weak k, h.2⟩
theorem OwnI.alloc {w : World} {base : Nat} {A : Option Addr} {n cap : Nat} {l : List Int} (h : OwnI w base A n cap l) (o : Obj) : OwnI (w.alloc o) base A n cap l := h.below ((Below.refl _ _).alloc (Nat.le_refl _) o)
theorem CtAt.alloc {w : World} {b n cap : Nat} {c : Ct} {A : Option Addr} (h : CtAt w b c A n cap) (o : Obj) : CtAt (w.alloc o) b c A n cap := h.below ((Below.refl _ _).alloc (Nat.le_refl _) o)
theorem OwnF.keep {w w' : World} {base n cap : Nat} {A : Option Addr} {l : List Fl} {F : Nat → Prop} (h : OwnF w base A n cap l) (k : Keep F w w') (hne : ∀ a, A = some a → ¬ F a.block) : OwnF w' base A n cap l := h.same (fun a ha => k.block a.block (h.lt a ha).2 (hne a ha))
theorem OwnI.keep {w w' : World} {base n cap : Nat} {A : Option Addr} {l : List Int} {F : Nat → Prop} (h : OwnI w base A n cap l) (k : Keep F w w') (hne : ∀ a, A = some a → ¬ F a.block) : OwnI w' base A n cap l := h.same (fun a ha => k.block a.block (h.lt a ha).2 (hne a ha))
/-- All that With has at hand. -/
structure WS (w wr : World) (b r : Nat) (c : Ct) (A : Option Addr) (n cap : Nat) (A1 : Option Addr) (m1 c1 : Nat) (lf : List Fl) (A2 : Option Addr) (m2 c2 : Nat) (li : List Int) : Prop where
  x : CtAt wr b c A n cap
  r : CtAt wr r Ct.zero none 0 0
  f : OwnF wr w.heap.size A1 m1 c1 lf
  i : OwnI wr w.heap.size A2 m2 c2 li
  b : Below w.heap.size w wr
theorem WS.below {w wr w' : World} {b r : Nat} {c : Ct} {A : Option Addr} {n cap : Nat} {A1 : Option Addr} {m1 c1 : Nat} {lf : List Fl} {A2 : Option Addr} {m2 c2 : Nat} {li : List Int} (h : WS w wr b r c A n cap A1 m1 c1 lf A2 m2 c2 li) (hb : Below wr.heap.size wr w') : WS w w' b r c A n cap A1 m1 c1 lf A2 m2 c2 li :=
  ⟨h.x.below hb, h.r.below hb, h.f.below hb, h.i.below hb, bstep h.b hb⟩
theorem WS.appI {w wr w' : World} {b r : Nat} {c : Ct} {A : Option Addr} {n cap : Nat} {A1 : Option Addr} {m1 c1 : Nat} {lf : List Fl} {A2 : Option Addr} {m2 c2 : Nat} {li li' : List Int} {g' cap' m' : Nat} (h : WS w wr b r c A n cap A1 m1 c1 lf A2 m2 c2 li) (o : OwnI w' w.heap.size (some ⟨g', 0, none⟩) m' cap' li') (k : FlKeep A2 g' wr w') : WS w w' b r c A n cap A1 m1 c1 lf (some ⟨g', 0, none⟩) m' cap' li' :=
  ⟨h.x.fk k (fun a ha => ct_ne_i h.x h.i a ha), h.r.fk k (fun a ha => ct_ne_i h.r h.i a ha), h.f.fk k (fun a b' ha hb => f_ne_i h.f h.i a b' ha hb), o, k.below (fun a ha => (h.i.lt a ha).1) h.b h.b.size⟩
theorem WS.appF {w wr w' : World} {b r : Nat} {c : Ct} {A : Option Addr} {n cap : Nat} {A1 : Option Addr} {m1 c1 : Nat} {lf lf' : List Fl} {A2 : Option Addr} {m2 c2 : Nat} {li : List Int} {g' cap' m' : Nat} (h : WS w wr b r c A n cap A1 m1 c1 lf A2 m2 c2 li) (o : OwnF w' w.heap.size (some ⟨g', 0, none⟩) m' cap' lf') (k : FlKeep A1 g' wr w') : WS w w' b r c A n cap (some ⟨g', 0, none⟩) m' cap' lf' A2 m2 c2 li :=
  ⟨h.x.fk k (fun a ha => ct_ne_f h.x h.f a ha), h.r.fk k (fun a ha => ct_ne_f h.r h.f a ha), o, h.i.fk k (fun a b' ha hb => fun e => f_ne_i h.f h.i b' a hb ha e.symm), k.below (fun a ha => (h.f.lt a ha).1) h.b h.b.size⟩
theorem WS.sortI {w wr w' : World} {b r : Nat} {c : Ct} {A : Option Addr} {n cap : Nat} {A1 : Option Addr} {m1 c1 : Nat} {lf : List Fl} {A2 : Option Addr} {m2 c2 : Nat} {li li' : List Int} (h : WS w wr b r c A n cap A1 m1 c1 lf A2 m2 c2 li) (o : OwnI w' w.heap.size A2 m2 c2 li') (k : Keep (blockOf A2) wr w') : WS w w' b r c A n cap A1 m1 c1 lf A2 m2 c2 li' :=
  ⟨h.x.keep k (fun ⟨a, ha, e⟩ => ct_ne_i h.x h.i a ha e), h.r.keep k (fun ⟨a, ha, e⟩ => ct_ne_i h.r h.i a ha e), h.f.keep k (fun a ha ⟨a', ha', e⟩ => f_ne_i h.f h.i a a' ha ha' e), o, k.below (fun q ⟨a, ha, e⟩ => by rw [e]; exact (h.i.lt a ha).1) h.b h.b.size⟩
theorem WS.sortF {w wr w' : World} {b r : Nat} {c : Ct} {A : Option Addr} {n cap : Nat} {A1 : Option Addr} {m1 c1 : Nat} {lf lf' : List Fl} {A2 : Option Addr} {m2 c2 : Nat} {li : List Int} (h : WS w wr b r c A n cap A1 m1 c1 lf A2 m2 c2 li) (o : OwnF w' w.heap.size A1 m1 c1 lf') (k : Keep (blockOf A1) wr w') : WS w w' b r c A n cap A1 m1 c1 lf' A2 m2 c2 li :=
  ⟨h.x.keep k (fun ⟨a, ha, e⟩ => ct_ne_f h.x h.f a ha e), h.r.keep k (fun ⟨a, ha, e⟩ => ct_ne_f h.r h.f a ha e), o, h.i.keep k (fun a ha ⟨a', ha', e⟩ => f_ne_i h.f h.i a' a ha' ha e.symm), k.below (fun q ⟨a, ha, e⟩ => by rw [e]; exact (h.f.lt a ha).1) h.b h.b.size⟩
/-- What is gathered of the catalog's own files. -/
def keepF (out : List Int) (fs : List Fl) : List Fl := fs.filter (fun f => !decide (f.name ∈ out))
theorem keepF_succ (out : List Int) (fs : List Fl) (i : Nat) (hi : i < fs.length) : keepF out (fs.take (i + 1)) = keepF out (fs.take i) ++ (if (flAt fs i).name ∈ out then [] else [flAt fs i]) := by
  unfold keepF
  rw [List.take_succ_eq_append_getElem hi, List.filter_append, flAt_get hi, List.filter_cons]
  by_cases h : (flAt fs i).name ∈ out
  · rw [if_neg (by simp [h]), if_pos h]; rfl
  · rw [if_pos (by simp [h]), if_neg h]; rfl
theorem keepF_len (out : List Int) (fs : List Fl) : (keepF out fs).length ≤ fs.length := List.length_filter_le _ _
theorem keepF_congr {o1 o2 : List Int} (h : ∀ z, z ∈ o1 ↔ z ∈ o2) (fs : List Fl) : keepF o1 fs = keepF o2 fs := by
  unfold keepF
  congr 1
  funext f
  have : decide (f.name ∈ o1) = decide (f.name ∈ o2) := by rw [decide_eq_decide]; exact h _
  rw [this]
theorem OwnF.cap {w : World} {base n cap : Nat} {A : Option Addr} {l : List Fl} (h : OwnF w base A n cap l) : n ≤ cap ∧ cap ≤ maxLen := h.1.cap
set_option maxHeartbeats 4000000 in
theorem with_any (c : Ct) (put : List Fl) (gone : List Int) (N : Nat) (A : Option Addr) (n cap : Nat) (Ap : Option Addr) (np cp : Nat) (Ag : Option Addr) (ng cg : Nat) (w : World)
    (hl : c.files.length = n) (hlp : put.length = np) (hlg : gone.length = ng) (hs1 : n + np ≤ 20) (hs2 : ng + np ≤ 12) (hr : FlR w N A c.files) (hrp : FlR w N Ap put) (hrg : IR w N Ag gone) (hN : N ≤ w.heap.size) :
    Calls Try.prog 10 #[.agg (ctv c A n cap).toArray, .slice Ap np cp, .slice Ag ng cg] w fun e w' => ∃ A' n' c', e = .returned (.agg (ctv { c with files := withF c.files put gone } A' n' c').toArray) ∧ OwnF w' w.heap.size A' n' c' (withF c.files put gone) ∧ Below w.heap.size w w' := by
  have HL := Lib.hid hl; have HR := Lib.hid hr; have HRP := Lib.hid hrp; have HRG := Lib.hid hrg; have HLG := Lib.hid hlg; have HLP := Lib.hid hlp
  have LO := Lib.hid (fun w0 h0 h1 => lastO_any put N Ap np cp w0 hlp (by omega) h0 h1)
  have CG := Lib.hid (fun w0 h0 h1 => cloneI_any gone N Ag ng cg w0 hlg (by omega) h0 h1)
  obtain ⟨L, hL⟩ : ∃ L, lasts Fl.name (isort Fl.name put) = L := ⟨_, rfl⟩
  have WF : Hid (withF c.files put gone = isort Fl.name (L ++ keepF (isort keyI (gone ++ L.map Fl.name)) c.files)) := Lib.hid (by
    rw [keepF_congr (o2 := gone ++ L.map Fl.name) (fun z => mem_isort keyI z _)]
    unfold withF keepF
    rw [hL])
  have LLe : Hid (L.length ≤ np) := Lib.hid (by rw [← hL, ← hlp, ← isort_length Fl.name put]; exact lasts_length Fl.name _)
  rw [hL] at LO
  obtain ⟨G, hG⟩ : ∃ G, withF c.files put gone = G := ⟨_, rfl⟩
  rw [hG] at WF ⊢
  clear hl hr hrp hrg hlg hlp hL hG
  go_enter Try.func10, Try.ntmps10
  go_wp2_with (with_reducible refine box_ct rfl _ rfl c A n cap rfl ?_)
  intro w1 l1 b1 s1
  obtain ⟨b, hb⟩ : ∃ b, b = w.heap.size := ⟨_, rfl⟩
  rw [← hb] at l1 ⊢
  have S1 := Lib.hid s1; have HB := Lib.hid hb; have L1 := Lib.hid l1; have B1 := Lib.hid b1
  clear s1 hb l1 b1
  go_wp2_with (with_reducible refine alloc_ct rfl rfl ?_)
  intro w2 l2 b2 s2
  obtain ⟨r, hr⟩ : ∃ r, r = w1.heap.size := ⟨_, rfl⟩
  rw [← hr] at l2 ⊢
  have hbr : b ≠ r := by have := S1.out; have := HB.out; omega
  have hbw : w.heap.size ≤ b := by have := HB.out; omega
  have hrw : w.heap.size ≤ r := by have := S1.out; omega
  have B2 := Lib.hid (bstep B1.out b2)
  have X2 := Lib.hid (L1.out.below b2)
  have R2 := Lib.hid l2
  clear l2 b2 s2 hr S1 HB L1 B1
  go_wp2_with fail
  refine (LO.out w2 (HRP.out.below (B2.out.mono hN)) (by have := B2.out.size; omega)).mono ?_
  rintro e w3 ⟨A1, m1, c1, rfl, o3, b3⟩
  have B3 := Lib.hid (bstep B2.out b3)
  have X3 := Lib.hid (X2.out.below b3)
  have R3 := Lib.hid (R2.out.below b3)
  have O3 := Lib.hid (o3.weak (base' := w.heap.size) (fun a ha => by have := (o3.lt a ha).1; have := B2.out.size; omega))
  have HM1 : Hid (L.length = m1) := Lib.hid o3.2.1
  clear o3 b3 LO X2 R2
  go_wp2_with fail
  refine (CG.out w3 (HRG.out.below (B3.out.mono hN)) (by have := B3.out.size; omega)).mono ?_
  rintro e w4 ⟨A2, c2, rfl, o4, b4⟩
  have B4 := Lib.hid (bstep B3.out b4)
  have X4 := Lib.hid (X3.out.below b4)
  have R4 := Lib.hid (R3.out.below b4)
  have F4 := Lib.hid (O3.out.below b4)
  have I4 := Lib.hid (o4.weak (base' := w.heap.size) (fun a ha => by have := (o4.lt a ha).1; have := B3.out.size; omega))
  clear o4 b4 CG X3 R3 O3
  have Z4 : Hid (WS w w4 b r c A n cap A1 m1 c1 L A2 (ng + 0) c2 (gone ++ (L.map Fl.name).take 0)) := Lib.hid ⟨X4.out, R4.out, F4.out, by rw [List.take_zero, List.append_nil]; exact I4.out, B4.out⟩
  have hm1 : m1 ≤ np := by have := HM1.out; have := LLe.out; omega
  clear X4 R4 F4 I4 B4 B2 B3
  go_wp2
  go_loopw [8, 10, 21] (fun ov _ iv wr => ∃ (i : Nat) (A2 : Option Addr) (c2 : Nat), i ≤ m1 ∧ iv = .int .i64 i ∧ ov = .slice A2 (ng + i) c2 ∧ WS w wr b r c A n cap A1 m1 c1 L A2 (ng + i) c2 (gone ++ (L.map Fl.name).take i)) (fun _ _ iv _ => m1 - (intOf iv).toNat)
  case atStart => exact ⟨0, A2, c2, Nat.zero_le _, rfl, rfl, Z4.out⟩
  case round =>
    clear Z4
    obtain ⟨i, A2, c2, hi, rfl, rfl, ws⟩ := hrel
    have WS1 := Lib.hid ws
    clear ws
    by_cases hlt : i < m1
    · have i1 : decide ((i : Int) < (m1 : Int)) = true := by rw [decide_eq_true_eq]; omega
      have bi : (i : Int) < (m1 : Int) := by omega
      obtain ⟨g1, e1, hgx⟩ := WS1.out.f.1.at (by omega)
      subst e1
      clear hgx
      obtain ⟨z0, z1, z2, z3, fok⟩ := WS1.out.f.cells4 i hlt
      have SN : Hid (gone ++ (L.map Fl.name).take (i + 1) = (gone ++ (L.map Fl.name).take i) ++ [(flAt L i).name]) := Lib.hid (by
        rw [List.take_succ_eq_append_getElem (by rw [List.length_map, HM1.out]; exact hlt), List.getElem_map, flAt_get (by rw [HM1.out]; exact hlt), List.append_assoc])
      obtain ⟨f, hf⟩ : ∃ f, flAt L i = f := ⟨_, rfl⟩
      rw [hf] at z0 z1 z2 z3 fok SN
      obtain ⟨n0, n1⟩ := id fok.a
      have FOK := Lib.hid fok.a
      clear hf fok
      have V : Hid (WS w ((wr.alloc (.cells #[.int .i64 f.name, .int .i64 f.file, .int .i64 f.first, .int .i64 f.blocks] 25)).alloc (.cells #[.int .i64 f.name] 3)) b r c A n cap (some ⟨g1, 0, none⟩) m1 c1 L A2 (ng + i) c2 (gone ++ (L.map Fl.name).take i)) := Lib.hid ((WS1.out.below ((Below.refl _ _).alloc (Nat.le_refl _) _)).below ((Below.refl _ _).alloc (Nat.le_refl _) _))
      go_wp2_with (at_builtin; go_loud (refine app_i _ rfl _ _ rfl w.heap.size (ng + i) c2 A2 (gone ++ (L.map Fl.name).take i) rfl V.out.i (wr.heap.size + 1) 1 f.name rfl (by simp) FOK.out (by omega) V.out.b.size ?_))
      intro g' cap' w' o' fk
      have V2 : Hid (WS w w' b r c A n cap (some ⟨g1, 0, none⟩) m1 c1 L (some ⟨g', 0, none⟩) (ng + (i + 1)) cap' (gone ++ (L.map Fl.name).take (i + 1))) := Lib.hid (by rw [SN.out, List.append_assoc]; exact V.out.appI o' fk)
      clear o' fk V WS1
      go_wp2
      go_roundw
      case rel => exact ⟨i + 1, some ⟨g', 0, none⟩, cap', by omega, by go_num, rfl, V2.out⟩
      case measure => simp [intOf]; omega
    · obtain rfl : i = m1 := by omega
      have i1 : decide ((i : Int) < (i : Int)) = false := by simp
      rw [List.take_of_length_le (by rw [List.length_map, HM1.out]; exact Nat.le_refl _)] at WS1
      have SI := Lib.hid (sortI_any (gone ++ L.map Fl.name) w.heap.size A2 (ng + i) c2 wr (by omega) WS1.out.i)
      obtain ⟨out, ho⟩ : ∃ out, isort keyI (gone ++ L.map Fl.name) = out := ⟨_, rfl⟩
      have RO : Hid (Rise keyI out) := Lib.hid (by rw [← ho]; exact isort_rise keyI _)
      rw [ho] at SI WF
      clear ho
      go_wp2_with fail
      refine SI.out.mono ?_
      rintro e w5 ⟨rfl, o5, k5⟩
      have Z5 := Lib.hid (WS1.out.sortI o5 k5)
      clear o5 k5 SI WS1
      obtain ⟨_, _, _, _, _, _, _, _, x8⟩ := Z5.out.x.cells
      have Z50 : Hid (WS w w5 b r c A n cap A1 i c1 (L ++ keepF out (c.files.take 0)) A2 (ng + i) c2 out) := Lib.hid (by rw [List.take_zero]; unfold keepF; rw [List.filter_nil, List.append_nil]; exact Z5.out)
      have hmi : i ≤ np := hm1
      go_wp2
      go_loopw [7, 12, 13, 14, 36] (fun fv _ _ _ jv wr => ∃ (j : Nat) (A1 : Option Addr) (m c1 : Nat), j ≤ n ∧ jv = .int .i64 j ∧ fv = .slice A1 m c1 ∧ WS w wr b r c A n cap A1 m c1 (L ++ keepF out (c.files.take j)) A2 (ng + i) c2 out) (fun _ _ _ _ jv _ => n - (intOf jv).toNat)
      case atStart => exact ⟨0, A1, i, c1, Nat.zero_le _, rfl, rfl, Z50.out⟩
      case round =>
        clear Z50 Z5 x8
        obtain ⟨j, A1, m, c1, hj, rfl, rfl, ws⟩ := hrel
        have WS1 := Lib.hid ws
        have hm20 : m ≤ np + j := by
          have h1 := ws.f.2.1
          rw [List.length_append] at h1
          have h2 := keepF_len out (c.files.take j)
          rw [List.length_take] at h2
          have := LLe.out
          omega
        clear ws
        by_cases hlt : j < n
        · have i1 : decide ((j : Int) < (n : Int)) = true := by rw [decide_eq_true_eq]; omega
          have bi : (j : Int) < (n : Int) := by omega
          obtain ⟨fb, fo, e1, hfb, z0, z1, z2, z3, fok⟩ := HR.out.below (WS1.out.b.mono hN) j (by rw [HL.out]; exact hlt)
          subst e1
          have SN := Lib.hid (keepF_succ out c.files j (by rw [HL.out]; exact hlt))
          obtain ⟨f, hf⟩ : ∃ f, flAt c.files j = f := ⟨_, rfl⟩
          rw [hf] at z0 z1 z2 z3 fok SN
          obtain ⟨n0, n1⟩ := id fok.a
          have FOK := Lib.hid fok
          clear hf fok
          obtain ⟨W, hW⟩ : ∃ W, W = wr.alloc (.cells #[.int .i64 f.name, .int .i64 f.file, .int .i64 f.first, .int .i64 f.blocks] 25) := ⟨_, rfl⟩
          obtain ⟨g, hg⟩ : ∃ g, g = wr.heap.size := ⟨_, rfl⟩
          have hbW : Below wr.heap.size wr W := by rw [hW]; exact (Below.refl _ _).alloc (Nat.le_refl _) _
          have LF : Hid (FlV W g f) := Lib.hid (by rw [hW, hg]; exact FlV.new wr f)
          have WSW := Lib.hid (WS1.out.below hbW)
          have SB := Lib.hid (searchI_any out w.heap.size A2 (ng + i) c2 f.name W (by omega) FOK.out.a WSW.out.i RO.out)
          go_upto_region 12 with fail
          rw [← hW, ← hg]
          obtain ⟨y0, y1, y2, y3⟩ := LF.out.cells
          clear hW hg hbW z0 z1 z2 z3 WS1
          go_wp2_with fail
          refine SB.out.mono ?_
          rintro e w6 ⟨⟨ix, rfl⟩, rfl⟩
          clear SB
          by_cases hin : f.name ∈ out
          · have d1 : decide (f.name ∈ out) = true := by rw [decide_eq_true_eq]; exact hin
            have SN2 : Hid (keepF out (c.files.take (j + 1)) = keepF out (c.files.take j)) := Lib.hid (by rw [SN.out, if_pos hin, List.append_nil])
            clear hin
            go_wp2
            go_roundw
            case rel => exact ⟨j + 1, _, m, c1, by omega, by go_num, rfl, by rw [SN2.out]; exact WSW.out⟩
            case measure => simp [intOf]; omega
          · have d1 : decide (f.name ∈ out) = false := by rw [decide_eq_false_iff_not]; exact hin
            have SN2 : Hid (L ++ keepF out (c.files.take (j + 1)) = (L ++ keepF out (c.files.take j)) ++ [f]) := Lib.hid (by rw [SN.out, if_neg hin, List.append_assoc])
            have V := Lib.hid (WSW.out.below ((Below.refl _ W).alloc (Nat.le_refl _) (.cells #[.int .i64 f.name, .int .i64 f.file, .int .i64 f.first, .int .i64 f.blocks] 25)))
            clear hin
            go_wp2_with (at_builtin; go_loud (refine app_fl _ rfl _ _ rfl w.heap.size m c1 A1 (L ++ keepF out (c.files.take j)) rfl V.out.f W.heap.size 0 1 f rfl (FlAt4.new W f _ _) FOK.out (by omega) V.out.b.size ?_))
            intro g' cap' w' o' fk
            have V2 : Hid (WS w w' b r c _ n cap (some ⟨g', 0, none⟩) (m + 1) cap' (L ++ keepF out (c.files.take (j + 1))) A2 (ng + i) c2 out) := Lib.hid (by rw [SN2.out]; exact V.out.appF (by first | exact o' | (rw [List.append_assoc]; exact o')) fk)
            clear o' fk V
            go_wp2
            go_roundw
            case rel => exact ⟨j + 1, some ⟨g', 0, none⟩, m + 1, cap', by omega, by go_num, rfl, V2.out⟩
            case measure => simp [intOf]; omega
        · obtain rfl : j = n := by omega
          have i1 : decide ((j : Int) < (j : Int)) = false := by simp
          rw [List.take_of_length_le (by rw [HL.out]; exact Nat.le_refl _)] at WS1
          have SF := Lib.hid (sortF_any _ w.heap.size A1 m c1 wr (by omega) WS1.out.f)
          rw [← WF.out] at SF
          go_wp2_with fail
          refine SF.out.mono ?_
          rintro e w5 ⟨rfl, o5, k5⟩
          have Z5 := Lib.hid (WS1.out.sortF o5 k5)
          clear o5 k5 SF WS1
          obtain ⟨_, _, _, _, _, _, _, _, x8⟩ := Z5.out.x.cells
          have fz8 := Arr.frozen Z5.out.x 8
          go_upto_region 18 with fail
          obtain ⟨W, hW⟩ : ∃ W, W = w5.setCell ⟨b, 8, none⟩ (.slice A1 m c1) := ⟨_, rfl⟩
          rw [← hW]
          have XW : Hid (CtAt W b { c with files := G } A1 m c1) := Lib.hid (by rw [hW]; exact CtAt.files (c := { c with files := G }) Z5.out.x)
          have RW : Hid (CtAt W r Ct.zero none 0 0) := Lib.hid (by rw [hW]; exact Z5.out.r.keep (keep_set (F := (· = b)) rfl) (fun e => hbr e.symm))
          have FW : Hid (OwnF W w.heap.size A1 m c1 G) := Lib.hid (by rw [hW]; exact Z5.out.f.other (fun a ha e => ct_ne_f Z5.out.x Z5.out.f a ha e.symm) _)
          have BW : Hid (Below w.heap.size w W) := Lib.hid (by rw [hW]; exact (keep_set (F := (· = b)) rfl).below (fun k hk => by rw [hk]; exact hbw) Z5.out.b Z5.out.b.size)
          clear hW x8 fz8 Z5
          go_wp2_with (first | (with_reducible refine load_ct rfl _ rfl b { c with files := G } A1 m c1 XW.out rfl ?_) | (with_reducible refine store_ct rfl _ _ rfl r Ct.zero { c with files := G } none A1 0 m 0 c1 RW.out rfl rfl ?_))
          intro w7 l7 k7 s7
          have L7 := Lib.hid l7
          have B7 := Lib.hid (k7.below (fun k hk => by omega) BW.out BW.out.size)
          have F7 := Lib.hid (FW.out.keep k7 (fun a ha e => ct_ne_f RW.out FW.out a ha e.symm))
          clear l7 k7 s7
          go_wp2
          exact ret_ct1 6 rfl rfl L7.out rfl ⟨A1, m, c1, rfl, F7.out, B7.out⟩
end Go.Proofs.Ytjiigbmfbmkhjaa
