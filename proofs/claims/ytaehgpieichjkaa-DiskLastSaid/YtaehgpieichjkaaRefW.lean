/-
  The document's own disk: Write.
-/
import Derived.Test.YtaehgpieichjkaaRefD
import Derived.OwnWalk
import Derived.Deep.DeepCutAuto
namespace Go.Proofs.Ytaehgpieichjkaa
set_option linter.unusedVariables false
set_option linter.unusedSimpArgs false
open Go.RowKit

theorem RowA.ne_arr {w : World} {e T : TypeId} {A : Option Addr} {c r : Nat} {xs vs : List Value} (h : RowA w e A c xs) (hr : Arr w r T vs) (hne : T ≠ e) (a : Addr) (ha : A = some a) : a.block ≠ r := by
  intro e'
  rcases h.parts with ⟨rfl, rfl, rfl⟩ | ⟨g, cur, rfl, h1, h2, h3, h4, h5⟩
  · cases ha
  · injection ha with ha
    subst ha
    have e' : g = r := e'
    subst e'
    unfold Arr at hr
    rw [h1] at hr
    injection hr with hr
    injection hr with _ hr
    exact hne hr.symm
theorem BlkAt.keep {w w' : World} {F F' : Nat → Prop} {T : TypeId} {r : Nat} {vs : List Value} {v : Value} {xs : List Int} (h : BlkAt w F v xs) (hr : Arr w r T vs) (hne : T ≠ 5) (hk : Keep (· = r) w w') (hF : ∀ g, F g → F' g) : BlkAt w' F' v xs := by
  obtain ⟨g, c, h1, h2, h3, h4⟩ := h
  refine ⟨g, c, h1, hF g h2, hk.own h3 (fun e => ?_), h4⟩
  obtain ⟨c1, e1⟩ := h3.heap
  unfold Arr at hr
  rw [← e, e1] at hr
  injection hr with hr
  injection hr with _ hr
  exact hne hr.symm
theorem RowA.keep {w w' : World} {e T : TypeId} {A : Option Addr} {c r : Nat} {xs vs : List Value} (h : RowA w e A c xs) (hr : Arr w r T vs) (hne : T ≠ e) (hk : Keep (· = r) w w') : RowA w' e A c xs :=
  h.same (fun a ha => hk.block _ (h.lt a ha) (h.ne_arr hr hne a ha))
/-- Its blocks stay, what waits is new. -/
theorem RefL.waits {w w' : World} {F F' : Nat → Prop} {r : Nat} {t t' : Dk} {p p' : RefP} (h : RefL w F r t p) (hk : Keep (· = r) w w') (ok : t'.Ok) (hb : t'.blk = t.blk) (hd : t'.bad = t.bad)
    (e1 : p'.AB = p.AB) (e2 : p'.cB = p.cB) (e3 : p'.AD = p.AD) (e4 : p'.cD = p.cD) (e5 : p'.bs = p.bs) (st : Arr w' r 47 (refCells t' p'))
    (rA : RowA w' 3 p'.AA p'.cA (ivals (t'.wt.map (·.1)))) (rW : RowA w' 26 p'.AW p'.cW p'.ws) (lW : p'.ws.length = t'.wt.length) (eW : ∀ i, i < t'.wt.length → BlkAt w' F' (p'.ws.getD i undef) (t'.wt.getD i (0, [])).2)
    (hF : ∀ k, F k → F' k) (fA : InF F' p'.AA) (fW : InF F' p'.AW) (ne : ∀ a a', p.AB = some a → p'.AW = some a' → a.block ≠ a'.block) (lt : ∀ k, F' k → k < w'.heap.size) : RefL w' F' r t' p' where
  ok := ok
  st := st
  rB := by rw [e1, e2, e5]; exact h.rB.keep h.st (by decide) hk
  lB := by rw [e5, hb]; exact h.lB
  eB := fun i hi => by rw [hb] at hi ⊢; rw [e5]; exact (h.eB i hi).keep h.st (by decide) hk hF
  rD := by rw [e3, e4, hd]; exact h.rD.keep h.st (by decide) hk
  rA := rA
  rW := rW
  lW := lW
  eW := eW
  fr := hF r h.fr
  fB := fun a ha => by rw [e1] at ha; exact hF _ (h.fB a ha)
  fD := fun a ha => by rw [e3] at ha; exact hF _ (h.fD a ha)
  fA := fA
  fW := fW
  ne := fun a a' ha ha' => by rw [e1] at ha; exact ne a a' ha ha'
  lt := lt
theorem Keep.grown {F : Nat → Prop} {w w' w'' : World} {row : Option Nat} (h : Keep F w w') (hg : w'.grownBy w'' row) (hr : ∀ k, row = some k → w.heap.size ≤ k) : Keep F w w'' :=
  ⟨hg.os.trans h.os, hg.tape.trans h.tape, hg.output.trans h.output, Nat.le_trans h.size hg.size, fun k hk hn => by
    rw [hg.block k (by have := h.size; omega) (fun e => by have := hr k e.symm; omega), h.block k hk hn]⟩
theorem Keep.alloc {F : Nat → Prop} {w w' : World} (h : Keep F w w') (o : Obj) : Keep F w (w'.alloc o) :=
  ⟨h.os, h.tape, h.output, by have := h.size; simp; omega, fun k hk hn => by rw [Below.heap_alloc _ _ _ (by have := h.size; omega), h.block k hk hn]⟩
theorem Keep.drew {F : Nat → Prop} {w w' : World} (h : Keep F w w') : Keep F w w'.drew := ⟨h.os, h.tape, h.output, h.size, h.block⟩
theorem grown_heap {w w' : World} {row : Option Nat} (hg : w.grownBy w' row) {k : Nat} (hk : k < w.heap.size) (hr : row ≠ some k) : w'.heap[k]? = w.heap[k]? := hg.block k hk (fun e => hr e.symm)
theorem Arr.grown {w w' : World} {h : Nat} {t : TypeId} {vs : List Value} {row : Option Nat} (ha : Arr w h t vs) (hg : w.grownBy w' row) (hr : row ≠ some h) : Arr w' h t vs := ha.same (grown_heap hg ha.lt hr)
theorem Arr.alloc {w : World} {h : Nat} {t : TypeId} {vs : List Value} (ha : Arr w h t vs) (o : Obj) : Arr (w.alloc o) h t vs := ha.same (Below.heap_alloc _ _ _ ha.lt)
theorem RowA.alloc {w : World} {e : TypeId} {A : Option Addr} {c : Nat} {xs : List Value} (h : RowA w e A c xs) (o : Obj) : RowA (w.alloc o) e A c xs := h.same (fun a ha => Below.heap_alloc _ _ _ (h.lt a ha))
theorem RowA.grown {w w' : World} {e : TypeId} {A : Option Addr} {c : Nat} {xs : List Value} {row : Option Nat} (h : RowA w e A c xs) (hg : w.grownBy w' row) (hr : ∀ a, A = some a → row ≠ some a.block) : RowA w' e A c xs := h.same (fun a ha => grown_heap hg (h.lt a ha) (hr a ha))
theorem RowO.alloc {w : World} {base : Nat} {e : TypeId} {A : Option Addr} {c : Nat} {xs : List Value} (h : RowO w base e A c xs) (o : Obj) : RowO (w.alloc o) base e A c xs := h.same (fun a ha => Below.heap_alloc _ _ _ (h.row.lt a ha))
theorem RowO.grown {w w' : World} {base : Nat} {e : TypeId} {A : Option Addr} {c : Nat} {xs : List Value} {row : Option Nat} (h : RowO w base e A c xs) (hg : w.grownBy w' row) (hr : ∀ a, A = some a → row ≠ some a.block) : RowO w' base e A c xs := h.same (fun a ha => grown_heap hg (h.row.lt a ha) (hr a ha))
theorem RowO.setCell {w : World} {base r k : Nat} {e : TypeId} {A : Option Addr} {c : Nat} {xs : List Value} (h : RowO w base e A c xs) (hr : r < base) (v : Value) : RowO (w.setCell ⟨r, k, none⟩ v) base e A c xs :=
  h.same (fun a ha => Below.heap_setCell _ _ _ _ (fun e => by have := (h.ge a ha).1; rw [e] at this; exact absurd this (by show ¬ base ≤ r; omega)))
theorem ivals_one (xs : List Nat) (u : Value) (h : u ∈ ivals xs) : u.oneCell' = true := by
  unfold ivals at h
  rw [List.mem_map] at h
  obtain ⟨x, _, rfl⟩ := h
  rfl
theorem RdB.src {w : World} {N c : Nat} {A : Option Addr} {xs : List Int} (h : RdB w N A xs) (hn : A = none → c = 0) : Src w A c (vals xs) := by
  refine ⟨fun ha => ?_, fun ad ha j u hu => ?_⟩
  · refine ⟨?_, hn ha⟩
    rcases Nat.eq_zero_or_pos xs.length with e | e
    · rw [List.eq_nil_of_length_eq_zero e]; rfl
    · obtain ⟨b, o, e1, _⟩ := h 0 e
      rw [ha] at e1; cases e1
  · have hj : j < xs.length := by
      rcases Nat.lt_or_ge j xs.length with e | e
      · exact e
      · rw [List.getElem?_eq_none (by rw [vals_length]; exact e)] at hu; cases hu
    obtain ⟨b, o, rfl, _⟩ := h j hj
    injection ha with ha
    subst ha
    exact h.news j u hu

set_option maxRecDepth 100000 in
set_option maxHeartbeats 1000000 in
theorem rrefuse_any (F : Nat → Prop) (r : Nat) (t : Dk) (p : RefP) (i : Int) (n c : Nat) (A : Option Addr) (w : World) (h : RefL w F r t p) (h0 : -9223372036854775808 ≤ i) (h1 : i ≤ 9223372036854775807) (hn : n ≤ maxLen) (hi : i < 0 ∨ t.blk.length ≤ i ∨ n ≠ 128) :
    Calls Try.prog 18 #[.pointer (some ⟨r, 0, none⟩), .int .i64 i, .slice A n c] w fun e w' => e = .returned (.int .i64 1) ∧ w' = w := by
  unfold maxLen at hn
  have c0 : w.cell? ⟨r, 0, none⟩ = some (.slice p.AB t.blk.length p.cB) := h.st.cell 0
  have l2 := h.ok.n2
  clear h
  generalize t.blk.length = m at *
  go_enter Try.func18, Try.ntmps18
  by_cases t1 : i < 0
  · have d1 : decide (i < 0) = true := by simpa using t1
    go_wp2
    go_ret
    exact ⟨rfl, rfl⟩
  · have d1 : decide (i < 0) = false := by simpa using t1
    by_cases t2 : (m : Int) ≤ i
    · have d2 : decide ((m : Int) ≤ i) = true := by simpa using t2
      go_wp2
      go_ret
      exact ⟨rfl, rfl⟩
    · have d2 : decide ((m : Int) ≤ i) = false := by simpa using t2
      have d3 : ((n : Int) != 128) = true := by simp; omega
      go_wp2
      go_ret
      exact ⟨rfl, rfl⟩

theorem Try.info_int : (Try.prog.info? 3).map (fun i => (i.zero, i.size, i.bytes)) = some (some (.int .i64 0), 1, 8) := by kernel_rfl
theorem Try.info_bytes : (Try.prog.info? 26).map (fun i => (i.zero, i.size, i.bytes)) = some (some (.slice none 0 0), 1, 24) := by kernel_rfl
theorem Try.info_bool : (Try.prog.info? 4).map (fun i => (i.zero, i.size, i.bytes)) = some (some (.bool false), 1, 1) := by kernel_rfl
theorem Own.of_row {w : World} {base g c : Nat} {xs : List Int} (h : RowO w base 5 (some ⟨g, 0, none⟩) c (vals xs)) (hu : ∀ k, k < xs.length → U8 (xs.getD k 0)) : Own w base g c xs := by
  refine ⟨?_, hu⟩
  unfold RowO at h
  rw [vals_length] at h
  exact h
theorem getD_snoc {α : Type} (l : List α) (x d : α) (i : Nat) (hi : i < (l ++ [x]).length) : (l ++ [x]).getD i d = if i < l.length then l.getD i d else x := by
  rw [List.getD_eq_getElem?_getD, List.getElem?_append]
  split
  · rw [List.getD_eq_getElem?_getD]
  · rw [List.length_append, List.length_singleton] at hi
    have : i - l.length = 0 := by omega
    rw [this]
    rfl
theorem ivals_snoc (l : List Nat) (i : Nat) : ivals l ++ [.int .i64 (i : Int)] = ivals (l ++ [i]) := by unfold ivals; rw [List.map_append]; rfl
/-- What a row of blocks holds is of one cell each. -/
theorem slices_one {w : World} {F : Nat → Prop} {ws : List Value} {m : Nat} (hl : ws.length = m) (h : ∀ i, i < m → ∃ xs, BlkAt w F (ws.getD i undef) xs) (u : Value) (hu : u ∈ ws) : u.oneCell' = true := by
  obtain ⟨k, hk, rfl⟩ := List.getElem_of_mem hu
  obtain ⟨xs, g, c, e, _⟩ := h k (by omega)
  rw [List.getD_eq_getElem?_getD, List.getElem?_eq_getElem hk] at e
  simp at e
  rw [e]
  rfl

/-- Bytes elsewhere, through a call that writes the thing's struct alone. -/
theorem Keep.rd {w w' : World} {r N : Nat} {A : Option Addr} {xs : List Int} (h : Keep (· = r) w w') (hr : RdB w N A xs) (hN : N ≤ w.heap.size) (hA : ∀ a, A = some a → a.block ≠ r) : RdB w' N A xs := fun k hk => by
  obtain ⟨b, o, rfl, h5, h6, h7⟩ := hr k hk
  refine ⟨b, o, rfl, h5, ?_, h7⟩
  rw [World.cell?_of_block (w := w) (a := ⟨b, o + k, none⟩) (h.block b (by omega) (hA _ rfl))]
  exact h6
theorem Keep.rdF {F : Nat → Prop} {w w' : World} {N : Nat} {A : Option Addr} {xs : List Int} (h : Keep F w w') (hr : RdB w N A xs) (hN : N ≤ w.heap.size) (hA : ∀ a, A = some a → ¬ F a.block) : RdB w' N A xs := fun k hk => by
  obtain ⟨b, o, rfl, h5, h6, h7⟩ := hr k hk
  refine ⟨b, o, rfl, h5, ?_, h7⟩
  rw [World.cell?_of_block (w := w) (a := ⟨b, o + k, none⟩) (h.block b (by omega) (hA _ rfl))]
  exact h6
theorem own_ne {w : World} {base r q : Nat} {e : TypeId} {A : Option Addr} {c : Nat} {xs : List Value} (h : RowO w base e A c xs) (hr : r < base) : (Value.slice A q c).ownBlock ≠ some r := fun e => by
  cases A with
  | none => cases e
  | some a =>
    have := (h.ge a rfl).1
    have e : some a.block = some r := e
    injection e with e
    omega
theorem own_ge {w : World} {base b q : Nat} {e : TypeId} {A : Option Addr} {c : Nat} {xs : List Value} (h : RowO w base e A c xs) (hr : b ≤ base) (k : Nat) (e : (Value.slice A q c).ownBlock = some k) : b ≤ k := by
  cases A with
  | none => cases e
  | some a =>
    have := (h.ge a rfl).1
    have e : some a.block = some k := e
    injection e with e
    omega

set_option maxRecDepth 100000 in
set_option maxHeartbeats 4000000 in
theorem rwrite_any (F : Nat → Prop) (r : Nat) (t : Dk) (p : RefP) (i c N : Nat) (A : Option Addr) (xs : List Int) (w : World) (h : RefL w F r t p) (hi : i < t.blk.length) (hx : IsBlk xs) (hr : RdB w N A xs) (hN : N ≤ w.heap.size) (hA : ∀ a, A = some a → ¬ F a.block) (hn : A = none → c = 0) (hw : t.wt.length ≤ 1000000) (hv : t.wrote ≤ 1000000000000) :
    Calls Try.prog 18 #[.pointer (some ⟨r, 0, none⟩), .int .i64 i, .slice A 128 c] w fun e w' => e = .returned (.int .i64 t.says) ∧ RStep F r (t.write i xs) w w' := by
  have c0 : w.cell? ⟨r, 0, none⟩ = some (.slice p.AB t.blk.length p.cB) := h.st.cell 0
  have l2 := h.ok.n2
  have d1 : decide ((i : Int) < 0) = false := by simp
  have d2 : decide ((t.blk.length : Int) ≤ (i : Int)) = false := by rw [decide_eq_false_iff_not]; omega
  have rg := rgoes_any F r t p w h
  have H := Lib.hid h; have HX := Lib.hid hx; have HRD := Lib.hid hr; have RG := Lib.hid rg; have HA := Lib.hid hA; have HN := Lib.hid hn
  clear h hx hr rg hA hn
  generalize hm : t.blk.length = m at *
  have HM := Lib.hid hm
  clear hm
  go_enter Try.func18, Try.ntmps18
  go_wp2_with fail
  refine RG.out.mono ?_
  rintro e w1 ⟨rfl, h1, k1⟩
  have HS : Hid (w.heap.size ≤ w1.heap.size) := Lib.hid k1.size
  have H1 := Lib.hid h1; have K1 := Lib.hid k1
  clear h1 k1 c0
  cases hg : t.goes
  · have HG := Lib.hid hg
    have e1 : t.asked = t.write i xs := by rw [Dk.asked_no HG.out]; unfold Dk.write; rw [if_neg (by rw [HG.out]; decide)]
    have e2 : t.says = 7 := by unfold Dk.says; rw [if_neg (by rw [HG.out]; decide)]
    have E1 := Lib.hid e1; have E2 := Lib.hid e2
    clear e1 e2 hg
    go_wp2
    go_ret
    refine ⟨by rw [E2.out]; rfl, F, ⟨p, ?_⟩, K1.out, Sub.refl _ _⟩
    have := H1.out
    rw [E1.out] at this
    exact this
  · have HG := Lib.hid hg
    have e2 : t.says = 0 := by unfold Dk.says; rw [if_pos HG.out]
    have e3 : t.write i xs = { t.burn with wt := t.wt ++ [(i, xs)], wrote := t.wrote + 1 } := Dk.write_goes HG.out i xs
    have h2 := H1.out
    rw [Dk.asked_yes HG.out] at h2
    have H2 := Lib.hid h2
    have E2 := Lib.hid e2; have E3 := Lib.hid e3
    have OKW := Lib.hid (H.out.ok.write i xs (by rw [HM.out]; exact hi) HX.out)
    clear e2 e3 hg H1
    have c6 : w1.cell? ⟨r, 6, none⟩ = some (.int .i64 (t.wrote : Int)) := h2.st.cell 6
    have z6 := h2.st.frozen 6
    have c2 : w1.cell? ⟨r, 2, none⟩ = some (.slice p.AA t.wt.length p.cA) := h2.st.cell 2
    have c3 : w1.cell? ⟨r, 3, none⟩ = some (.slice p.AW t.wt.length p.cW) := h2.st.cell 3
    have hrl : r < w1.heap.size := h2.st.lt
    -- b in the world behind the question
    have rb : RdB w1 N A xs := fun k hk => by
      obtain ⟨b, o, rfl, h5, h6, h7⟩ := HRD.out k hk
      refine ⟨b, o, rfl, h5, ?_, h7⟩
      rw [World.cell?_of_block (w := w) (a := ⟨b, o + k, none⟩) (K1.out.block b (by omega) (HA.out _ rfl))]
      exact h6
    have RB := Lib.hid rb
    have AR1 := Lib.hid h2.st
    clear rb h2
    go_upto_region 6 with fail
    -- the world behind the count
    obtain ⟨w2, hw2⟩ : ∃ w2, w2 = w1.setCell ⟨r, 6, none⟩ (.int .i64 ((t.wrote : Int) + 1)) := ⟨_, rfl⟩
    rw [← hw2]
    have k2 : Keep (· = r) w1 w2 := by rw [hw2]; exact (Keep.refl (· = r) w1).setCell (a := ⟨r, 6, none⟩) rfl _
    have st2 : Arr w2 r 47 ((refCells t.burn p).set 6 (.int .i64 ((t.wrote : Int) + 1))) := by rw [hw2]; exact AR1.out.set 6 _
    have s2 : w2.heap.size = w1.heap.size := by rw [hw2, setCell_size]
    have y2 : w2.cell? ⟨r, 2, none⟩ = some (.slice p.AA t.wt.length p.cA) := st2.cell 2
    have hrl2 : r < w2.heap.size := by rw [s2]; exact hrl
    have HAr : Hid (∀ a, A = some a → a.block ≠ r) := Lib.hid (fun a ha e => HA.out a ha (by rw [e]; exact H.out.fr))
    have K2 := Lib.hid k2; have ST2 := Lib.hid st2; have S2 := Lib.hid s2
    have LA : Hid ((ivals (t.wt.map (·.1))).length = t.wt.length) := Lib.hid (by rw [ivals_len, List.length_map])
    have LW : Hid (p.ws.length = t.wt.length) := Lib.hid H2.out.lW
    have HW1 : Hid (N ≤ w1.heap.size) := Lib.hid (by have := HS.out; omega)
    clear k2 st2 s2 hw2 c6 z6 c2 c3 AR1
    generalize hmm : t.wt.length = q at *
    have HQ := Lib.hid hmm
    clear hmm
    -- At
    go_wp2_with (at_builtin; go_loud (refine app_row _ rfl _ _ 45 3 rfl Try.underlying45 (.int .i64 0) 8 Try.info_int rfl (by decide) w2.heap.size _ 0 0 [] rfl rfl (RowO.empty w2 _ _ (Nat.le_refl _)) p.AA q p.cA _ LA.out rfl ?a1 ?a2 ?a3 ?a4 ?a5 ?_))
    case a1 => exact ((H2.out.rA.keep H2.out.st (by decide) K2.out).alloc _).src
    case a2 => exact ivals_one _
    case a3 => omega
    case a4 => exact fun _ e => by cases e
    case a5 => simp
    intro A3 c3 w3 o3 g3 n3
    have o2 := RowO.empty w2 3 w2.heap.size (Nat.le_refl _)
    have st3 := (ST2.out.alloc (.cells #[] 3)).grown g3 (own_ne o2 hrl2)
    have k3 := (K2.out.alloc (.cells #[] 3)).grown g3 (own_ge o2 (by have := S2.out; omega))
    have y3 : w3.cell? ⟨r, 2, none⟩ = some (.slice p.AA t.wt.length p.cA) := st3.cell 2
    have s3 : w2.heap.size ≤ w3.heap.size := by have := g3.size; simp at this; omega
    have hrl3 : r < w3.heap.size := by omega
    have O3 := Lib.hid o3; have G3 := Lib.hid g3; have ST3 := Lib.hid st3; have K3 := Lib.hid k3; have S3 := Lib.hid s3
    clear o3 g3 st3 k3 s3 y2 n3
    clear o2
    go_wp2_with (at_builtin; go_loud (refine app_row _ rfl _ _ 45 3 rfl Try.underlying45 (.int .i64 0) 8 Try.info_int rfl (by decide) w2.heap.size A3 c3 q _ LA.out rfl (O3.out.alloc _) _ 1 1 [.int .i64 (i : Int)] rfl rfl ?b1 ?b2 ?b3 ?b4 ?b5 ?_))
    case b1 => exact Src.one w3 _ _ _ _
    case b2 => exact fun u hu => by rw [List.mem_singleton] at hu; subst hu; rfl
    case b3 => omega
    case b4 => exact fun e => by cases e
    case b5 => have := S3.out; simp; omega
    intro A4 c4 w4 o4 g4 n4
    rw [ivals_snoc] at o4
    have st4 := (ST3.out.alloc (.cells #[.int .i64 (i : Int)] 3)).grown g4 (own_ne O3.out hrl2)
    have k4 := (K3.out.alloc (.cells #[.int .i64 (i : Int)] 3)).grown g4 (own_ge O3.out (by have := S2.out; omega))
    have y4 : w4.cell? ⟨r, 2, none⟩ = some (.slice p.AA t.wt.length p.cA) := st4.cell 2
    have z4 := st4.frozen 2
    have s4 : w3.heap.size ≤ w4.heap.size := by have := g4.size; simp at this; omega
    have hrl4 : r < w4.heap.size := by omega
    have O4 := Lib.hid o4; have ST4 := Lib.hid st4; have K4 := Lib.hid k4; have S4 := Lib.hid s4
    clear o4 g4 st4 k4 s4 y3 n4 O3 G3 ST3 K3
    go_upto_region 7 with fail
    -- W
    obtain ⟨w5, hw5⟩ : ∃ w5, w5 = w4.setCell ⟨r, 2, none⟩ (.slice A4 (q + 1) c4) := ⟨_, rfl⟩
    rw [← hw5]
    have st5 := ST4.out.set 2 (.slice A4 (q + 1) c4)
    have k5 := K4.out.setCell (a := ⟨r, 2, none⟩) rfl (.slice A4 (q + 1) c4)
    have o5 := O4.out.setCell (k := 2) hrl2 (.slice A4 (q + 1) c4)
    rw [← hw5] at st5 k5 o5
    have s5 : w5.heap.size = w4.heap.size := by rw [hw5, setCell_size]
    have y5 : w5.cell? ⟨r, 3, none⟩ = some (.slice p.AW t.wt.length p.cW) := st5.cell 3
    rw [HQ.out] at y5
    have hrl5 : r < w5.heap.size := by omega
    have O5 := Lib.hid o5; have ST5 := Lib.hid st5; have K5 := Lib.hid k5; have S5 := Lib.hid s5
    have HB : Hid (w1.heap.size ≤ w5.heap.size) := Lib.hid k5.size
    clear o5 st5 k5 s5 hw5 O4 ST4 K4 y4 z4
    have ONE : Hid (∀ u, u ∈ p.ws → u.oneCell' = true) := Lib.hid (slices_one H2.out.lW (fun i hi => ⟨_, H2.out.eW i hi⟩))
    go_wp2_with (at_builtin; go_loud (refine app_row _ rfl _ _ 43 26 rfl Try.underlying43 (.slice none 0 0) 24 Try.info_bytes rfl (by decide) w5.heap.size _ 0 0 [] rfl rfl (RowO.empty w5 _ _ (Nat.le_refl _)) p.AW q p.cW _ LW.out rfl ?a1 ?a2 ?a3 ?a4 ?a5 ?_))
    case a1 => exact ((H2.out.rW.keep H2.out.st (by decide) K5.out).alloc _).src
    case a2 => exact ONE.out
    case a3 => omega
    case a4 => exact fun _ e => by cases e
    case a5 => simp
    intro A6 c6 w6 o6 g6 n6
    have o5' := RowO.empty w5 26 w5.heap.size (Nat.le_refl _)
    have st6 := (ST5.out.alloc (.cells #[] 26)).grown g6 (own_ne o5' hrl5)
    have k6 := (K5.out.alloc (.cells #[] 26)).grown g6 (own_ge o5' HB.out)
    have oa6 := (O5.out.alloc (.cells #[] 26)).grown g6 (fun a ha => own_ne o5' ((O5.out.ge a ha).2))
    have s6 : w5.heap.size ≤ w6.heap.size := by have := g6.size; simp at this; omega
    have hrl6 : r < w6.heap.size := by omega
    have O6 := Lib.hid o6; have OA6 := Lib.hid oa6; have ST6 := Lib.hid st6; have K6 := Lib.hid k6; have S6 := Lib.hid s6
    clear o6 g6 st6 k6 s6 y5 n6 o5' oa6 O5 ST5 K5 ONE
    have LX : Hid ((vals xs).length = 128) := Lib.hid (by rw [vals_length]; exact HX.out.1)
    go_wp2_with (at_builtin; go_loud (refine app_row _ rfl _ _ 26 5 rfl Try.underlying26 (.int .u8 0) 1 Try.info_byte rfl (by decide) w6.heap.size _ 0 0 [] rfl rfl (RowO.empty w6 _ _ (Nat.le_refl _)) A 128 c _ LX.out rfl ?d1 ?d2 ?d3 ?d4 ?d5 ?_))
    case d1 =>
      have := K6.out.rd (xs := xs) (N := N) (A := A) (K1.out.rdF HRD.out hN HA.out) HW1.out HAr.out
      exact (this.below ((Below.alloc (Below.refl _ _) (Nat.le_refl _) _).mono (by have := HW1.out; have := HB.out; have := S6.out; omega))).src HN.out
    case d2 => exact vals_one xs
    case d3 => omega
    case d4 => exact fun _ e => by cases e
    case d5 => simp
    intro A7 c7 w7 o7 g7 n7
    obtain ⟨gb, rfl⟩ : ∃ gb, A7 = some ⟨gb, 0, none⟩ := by
      rcases o7.row.parts with ⟨e, _⟩ | ⟨g, cur, e, _⟩
      · exact absurd e n7
      · exact ⟨g, e⟩
    have o6' := RowO.empty w6 5 w6.heap.size (Nat.le_refl _)
    have st7 := (ST6.out.alloc (.cells #[] 5)).grown g7 (own_ne o6' hrl6)
    have k7 := (K6.out.alloc (.cells #[] 5)).grown g7 (own_ge o6' (by have := HB.out; have := S6.out; omega))
    have oa7 := (OA6.out.alloc (.cells #[] 5)).grown g7 (fun a ha => own_ne o6' ((OA6.out.ge a ha).2))
    have ow7 := (O6.out.alloc (.cells #[] 5)).grown g7 (fun a ha => own_ne o6' ((O6.out.ge a ha).2))
    have s7 : w6.heap.size ≤ w7.heap.size := by have := g7.size; simp at this; omega
    have hrl7 : r < w7.heap.size := by omega
    have O7 := Lib.hid o7; have OW7 := Lib.hid ow7; have OA7 := Lib.hid oa7; have ST7 := Lib.hid st7; have K7 := Lib.hid k7; have S7 := Lib.hid s7
    clear o7 g7 st7 k7 s7 n7 o6' oa7 ow7 O6 ST6 K6 OA6
    go_wp2_with (at_builtin; go_loud (refine app_row _ rfl _ _ 43 26 rfl Try.underlying43 (.slice none 0 0) 24 Try.info_bytes rfl (by decide) w5.heap.size A6 c6 q _ LW.out rfl (OW7.out.alloc _) _ 1 1 [.slice (some ⟨gb, 0, none⟩) 128 c7] rfl rfl ?e1 ?e2 ?e3 ?e4 ?e5 ?_))
    case e1 => exact Src.one w7 _ _ _ _
    case e2 => exact fun u hu => by rw [List.mem_singleton] at hu; subst hu; rfl
    case e3 => omega
    case e4 => exact fun e => by cases e
    case e5 => have := S6.out; have := S7.out; simp; omega
    intro A8 c8 w8 o8 g8 n8
    have st8 := (ST7.out.alloc (.cells #[.slice (some ⟨gb, 0, none⟩) 128 c7] 26)).grown g8 (own_ne OW7.out hrl5)
    have k8 := (K7.out.alloc (.cells #[.slice (some ⟨gb, 0, none⟩) 128 c7] 26)).grown g8 (own_ge OW7.out HB.out)
    have oa8 := (OA7.out.alloc (.cells #[.slice (some ⟨gb, 0, none⟩) 128 c7] 26)).grown g8 (fun a ha e => by
      have h8 := OA7.out.row.apart OW7.out.row (by decide) a
      cases A6 with
      | none => cases e
      | some a6 =>
        have e : some a6.block = some a.block := e
        injection e with e
        exact h8 a6 ha rfl e.symm)
    have ob8 := (O7.out.alloc (.cells #[.slice (some ⟨gb, 0, none⟩) 128 c7] 26)).grown g8 (fun a ha e => by
      have h8 := O7.out.row.apart OW7.out.row (by decide) a
      cases A6 with
      | none => cases e
      | some a6 =>
        have e : some a6.block = some a.block := e
        injection e with e
        exact h8 a6 ha rfl e.symm)
    have s8 : w7.heap.size ≤ w8.heap.size := by have := g8.size; simp at this; omega
    have y8 : w8.cell? ⟨r, 3, none⟩ = some (.slice p.AW t.wt.length p.cW) := st8.cell 3
    have z8 := st8.frozen 3
    have O8 := Lib.hid o8; have OA8 := Lib.hid oa8; have OB8 := Lib.hid ob8; have ST8 := Lib.hid st8; have K8 := Lib.hid k8; have S8 := Lib.hid s8
    clear o8 oa8 ob8 st8 k8 s8 n8 g8 O7 OW7 OA7 ST7 K7
    go_wp2
    go_ret
    have st9 := ST8.out.set 3 (.slice A8 (q + 1) c8)
    have k9 := K8.out.setCell (a := ⟨r, 3, none⟩) rfl (.slice A8 (q + 1) c8)
    have oa9 := OA8.out.setCell (k := 3) hrl2 (.slice A8 (q + 1) c8)
    have ow9 := O8.out.setCell (k := 3) hrl5 (.slice A8 (q + 1) c8)
    have ob9 := OB8.out.setCell (k := 3) hrl6 (.slice A8 (q + 1) c8)
    have s9 : (w8.setCell ⟨r, 3, none⟩ (.slice A8 (q + 1) c8)).heap.size = w8.heap.size := setCell_size _ _ _
    have hs1 := HS.out
    have hs2 := S2.out
    have hs3 := S3.out
    have hs4 := S4.out
    have hs5 := S5.out
    have hs6 := S6.out
    have hs7 := S7.out
    have hs8 := S8.out
    refine ⟨by rw [E2.out]; rfl, fun k => F k ∨ (w.heap.size ≤ k ∧ k < w8.heap.size), ⟨{ p with AA := A4, cA := c4, AW := A8, cW := c8, ws := p.ws ++ [.slice (some ⟨gb, 0, none⟩) 128 c7] }, ?_⟩, K1.out.trans (F' := (· = r)) (fun k hk => Or.inl (by rw [hk]; exact H.out.fr)) k9, fun k hk => hk.imp id And.left⟩
    have OK9 := OKW.out
    rw [E3.out] at OK9 ⊢
    have lw : (t.wt ++ [(i, xs)]).length = q + 1 := by rw [List.length_append, HQ.out]; rfl
    refine H2.out.waits (F' := fun k => F k ∨ (w.heap.size ≤ k ∧ k < w8.heap.size)) k9 OK9 rfl rfl rfl rfl rfl rfl rfl ?_ ?_ ow9.row ?_ ?_ (fun k hk => Or.inl hk) ?_ ?_ ?_ ?_
    · have : (((refCells t.burn p).set 6 (.int .i64 ((t.wrote : Int) + 1))).set 2 (.slice A4 (q + 1) c4)).set 3 (.slice A8 (q + 1) c8) = refCells { t.burn with wt := t.wt ++ [(i, xs)], wrote := t.wrote + 1 } { p with AA := A4, cA := c4, AW := A8, cW := c8, ws := p.ws ++ [.slice (some ⟨gb, 0, none⟩) 128 c7] } := by
        unfold refCells
        simp only [lw, List.set, Int.natCast_add]
        rfl
      rw [this] at st9
      exact st9
    · have : ivals ((t.wt ++ [(i, xs)]).map (·.1)) = ivals (t.wt.map (·.1) ++ [i]) := by rw [List.map_append]; rfl
      show RowA _ _ A4 c4 (ivals ((t.wt ++ [(i, xs)]).map (·.1)))
      rw [this]
      exact oa9.row
    · show (p.ws ++ [_]).length = (t.wt ++ [(i, xs)]).length
      rw [lw, List.length_append, LW.out]; rfl
    · intro k hk
      have hk : k < (t.wt ++ [(i, xs)]).length := hk
      show BlkAt _ _ ((p.ws ++ [Value.slice (some ⟨gb, 0, none⟩) 128 c7]).getD k undef) ((t.wt ++ [(i, xs)]).getD k (0, [])).2
      rw [getD_snoc _ _ _ _ (by rw [List.length_append, LW.out]; rw [lw] at hk; exact hk), getD_snoc _ _ _ _ hk]
      by_cases hkq : k < q
      · rw [if_pos (by rw [LW.out]; exact hkq), if_pos (by rw [HQ.out]; exact hkq)]
        exact (H2.out.eW k (by show k < t.wt.length; rw [HQ.out]; exact hkq)).keep H2.out.st (by decide) k9 (fun g hg => Or.inl hg)
      · rw [if_neg (by rw [LW.out]; exact hkq), if_neg (by rw [HQ.out]; exact hkq)]
        have := ob9.ge _ rfl
        have h7 : w6.heap.size ≤ gb ∧ gb < (w8.setCell ⟨r, 3, none⟩ (.slice A8 (q + 1) c8)).heap.size := this
        exact ⟨gb, c7, rfl, Or.inr ⟨by omega, by omega⟩, Own.of_row (RowO.of ob9.row (fun _ _ => Nat.zero_le _)) HX.out.2, HX.out.1⟩
    · intro a ha
      have := oa9.ge a ha
      exact Or.inr ⟨by omega, by omega⟩
    · intro a ha
      have := ow9.ge a ha
      exact Or.inr ⟨by omega, by omega⟩
    · intro a a' ha ha'
      have h1 := H2.out.rB.lt a ha
      have h2 := (ow9.ge a' ha').1
      omega
    · intro k hk
      rcases hk with hk | hk
      · have := H2.out.lt k hk
        omega
      · omega
end Go.Proofs.Ytaehgpieichjkaa
