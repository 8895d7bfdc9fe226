/-
  Package store: Format, of no card.
  Store, maths alone: saveAll makes each file that has a name.
  Store, maths alone: what Commit leaves, on a disk that no crash threatens.
  Store, maths alone: wipe, Format and Open, on a disk that no crash threatens.
-/
import Derived.Test.YtilmicekpclmbaaZE
import Derived.Test.YtilmicekpclmbaaZF
namespace Go.Proofs.Ytilmicekpclmbaa
set_option linter.unusedVariables false
set_option linter.unusedSimpArgs false
set_option maxRecDepth 100000
open Go.RowKit

/-- What saveAll keeps. -/
theorem saveF_keeps (fs : Int → Option (List Int)) (hf : ∀ n bs, fs n = some bs → bs.length ≤ 1000 ∧ ∀ j, j < bs.length → U8 (bs.getD j 0)) : ∀ (k : Nat) (nm : Int) (s : St) (sv : List Fl), StInv s → s.begun + k ≤ 1000000 →
    (saveF fs k nm s sv).2.1.cat = s.cat ∧ (saveF fs k nm s sv).2.1.slot = s.slot ∧ (saveF fs k nm s sv).2.1.loc = s.loc ∧ (saveF fs k nm s sv).2.1.free.length = s.free.length ∧ (saveF fs k nm s sv).2.1.dk.blk.length = s.dk.blk.length ∧ (saveF fs k nm s sv).2.1.dk.wt.length ≤ s.dk.wt.length + 2002 * k ∧ (saveF fs k nm s sv).2.1.dk.wrote ≤ s.dk.wrote + 2002 * k ∧ (saveF fs k nm s sv).2.2.length ≤ sv.length + k ∧ 0 ≤ (saveF fs k nm s sv).2.1.begun ∧ (saveF fs k nm s sv).2.1.begun ≤ s.begun + k
  | 0, nm, s, sv, i, hb => ⟨rfl, rfl, rfl, rfl, rfl, Nat.le_refl _, by show s.dk.wrote ≤ _; omega, Nat.le_refl _, i.bg.1, by show s.begun ≤ _; omega⟩
  | k + 1, nm, s, sv, i, hb => by
    cases h : fs nm with
    | none =>
      rw [saveF_none h]
      obtain ⟨a1, a2, a3, a4, a5, a6, a7, a8, a9, a10⟩ := saveF_keeps fs hf k (nm + 1) s sv i (by omega)
      exact ⟨a1, a2, a3, a4, a5, by omega, by omega, by omega, a9, by omega⟩
    | some bs =>
      obtain ⟨h1, h2⟩ := hf nm bs h
      obtain ⟨m1, m2, m3, m4, m5, m6, m7, m8⟩ := makeF_keeps i nm h2
      have i1 := i.fr; have i2 := i.b2; have i3 := i.g; have i4 := i.bg
      by_cases h0 : (makeF s nm bs).1.2 = 0
      · rw [saveF_ok h h0]
        obtain ⟨a1, a2, a3, a4, a5, a6, a7, a8, a9, a10⟩ := saveF_keeps fs hf k (nm + 1) (makeF s nm bs).2 (sv ++ [(makeF s nm bs).1.1]) ⟨by omega, by omega, by rw [m1]; exact i3, by omega⟩ (by omega)
        rw [List.length_append] at a8
        have e1 : [(makeF s nm bs).1.1].length = 1 := rfl
        exact ⟨a1.trans m1, a2.trans m2, a3.trans m4, a4.trans m5, a5.trans m6, by omega, by omega, by omega, a9, by omega⟩
      · rw [saveF_bad h h0]
        exact ⟨m1, m2, m4, m5, m6, by show (makeF s nm bs).2.dk.wt.length ≤ _; omega, by show (makeF s nm bs).2.dk.wrote ≤ _; omega, by simp, by show 0 ≤ (makeF s nm bs).2.begun; omega, by show (makeF s nm bs).2.begun ≤ _; omega⟩
theorem commit_loc (s : St) (c : Ct) : (s.commit c).2.loc = s.loc := by
  unfold St.commit
  split
  · rfl
  · split
    · rfl
    · split
      · rfl
      · split
        · rfl
        · rfl
def St.bare (dk : Dk) (d : Nat) : St := ⟨dk, Ct.zero, 1, 0, allF dk.blk.length, d⟩
/-- What Format answers, the disk that it leaves, and the store that it makes. -/
noncomputable def formF (dk : Dk) (d : Nat) (fs : Int → Option (List Int)) : Int × St :=
  if dk.blk.length ≤ 2 then (1, St.bare dk d)
  else if (wipeF dk).1 ≠ 0 then ((wipeF dk).1, St.bare (wipeF dk).2 d)
  else if (saveF fs 255 1 (St.bare (wipeF dk).2 d) []).1 ≠ 0 then ((saveF fs 255 1 (St.bare (wipeF dk).2 d) []).1, (saveF fs 255 1 (St.bare (wipeF dk).2 d) []).2.1)
  else (saveF fs 255 1 (St.bare (wipeF dk).2 d) []).2.1.commit { Ct.zero with files := (saveF fs 255 1 (St.bare (wipeF dk).2 d) []).2.2 }
def FormE (Fd : Nat → Prop) (d : Nat) (R : Int × St) (w : World) (e : Ending) (w' : World) : Prop :=
  (R.1 = 0 ∧ ∃ b F', e = .returned (.tuple #[.pointer (some ⟨b, 0, none⟩), .int .i64 0]) ∧ StAt w' F' b R.2 ∧ Keep Fd w w' ∧ Sub F' Fd w) ∨ (R.1 ≠ 0 ∧ e = .returned (.tuple #[.pointer none, .int .i64 R.1]) ∧ Step Fd d R.2.dk w w')
theorem wipeF_len (dk : Dk) : (wipeF dk).2.blk.length = dk.blk.length ∧ (wipeF dk).2.wt.length ≤ dk.wt.length + 2 ∧ (wipeF dk).2.wrote ≤ dk.wrote + 2 := by
  obtain ⟨a1, a2, a3⟩ := Dk.write_len dk 0 wipeB
  obtain ⟨b1, b2, b3⟩ := Dk.write_len (dk.write 0 wipeB) 1 wipeB
  obtain ⟨c1, c2, c3⟩ := Dk.flush_len ((dk.write 0 wipeB).write 1 wipeB)
  unfold wipeF
  split
  · split
    · exact ⟨c1.trans (b1.trans a1), by show ((dk.write 0 wipeB).write 1 wipeB).flush.wt.length ≤ _; omega, by show ((dk.write 0 wipeB).write 1 wipeB).flush.wrote ≤ _; omega⟩
    · exact ⟨b1.trans a1, by show ((dk.write 0 wipeB).write 1 wipeB).wt.length ≤ _; omega, by show ((dk.write 0 wipeB).write 1 wipeB).wrote ≤ _; omega⟩
  · exact ⟨a1, by show (dk.write 0 wipeB).wt.length ≤ _; omega, by show (dk.write 0 wipeB).wrote ≤ _; omega⟩
theorem MapR.more {w : World} {N N' : Nat} {F : Nat → Prop} {M : Value} {l : List (Int × Value)} {fs : Int → Option (List Int)} (h : MapR w N F M l fs) (k : N ≤ N') : MapR w N' F M l fs := by
  refine ⟨?_, h.n, fun n v hv => ?_⟩
  · rcases h.m with e | ⟨mb, h1, h2, h3, h4⟩
    · exact Or.inl e
    · exact Or.inr ⟨mb, h1, h2, by omega, h4⟩
  · obtain ⟨bs, A, c, h1, h2, h3, h4, h5, h6, h7⟩ := h.e n v hv
    exact ⟨bs, A, c, h1, h2, h3, h4, h5, h6.more k, fun a ha => ⟨(h7 a ha).1, by have := (h7 a ha).2; omega⟩⟩
theorem built_st3 (d : Nat) (dk : Dk) (G : Option Addr) (k : Nat) : Try.prog.built 75 [(0, .pointer (some ⟨d, 0, none⟩)), (2, .int .i64 1), (4, .slice G dk.blk.length k)] = some (stv d (St.bare dk d) none 0 0 G k).toArray := by
  have h1 := Try.zero_st
  have h2 := Try.places_st
  unfold Program.built
  cases hi : Try.prog.info? 75 with
  | none => rw [hi] at h1; cases h1
  | some it =>
    rw [hi] at h1
    simp at h1
    cases hu : Try.prog.underlying 75 with
    | none => rw [hu] at h2; cases h2
    | some q =>
      rw [hu] at h2
      cases q <;> try (simp at h2; done)
      rename_i fs
      simp only at h2
      simp only [h1.1, h2]
      simp [Instr.fill, Value.cells, stv, St.new, St.bare, allF_len]
theorem built_ct2 (A : Option Addr) (n k : Nat) : Try.prog.built 37 [(4, .agg #[.int .i64 0, .int .i64 0, .int .i64 0, .int .i64 0]), (5, .slice A n k)] = some (ctv Ct.zero A n k).toArray := by
  have h1 := Try.zero_ct
  have h2 := Try.places_ct
  unfold Program.built
  cases hi : Try.prog.info? 37 with
  | none => rw [hi] at h1; cases h1
  | some it =>
    rw [hi] at h1
    simp at h1
    cases hu : Try.prog.underlying 37 with
    | none => rw [hu] at h2; cases h2
    | some q =>
      rw [hu] at h2
      cases q <;> try (simp at h2; done)
      rename_i fs
      simp only at h2
      simp only [h1.1, h2]
      simp [Instr.fill, Value.cells, ctv, Ct.zero, Cd.zero]
section
variable {ops : Array Oper} {rs : List Oper} {o : Oper} {a : Act} {w : World} {Q : Exit → Act → World → Prop}
theorem build_st3 (hgd : o.guard = none) (x0 x1 x2 : Operand) (ho : o.op = .build 75 #[(0, x0), (2, x1), (4, x2)]) (d : Nat) (dk : Dk) (G : Option Addr) (k : Nat) (h0 : a.eval x0 = .pointer (some ⟨d, 0, none⟩)) (h1 : a.eval x1 = .int .i64 1) (h2 : a.eval x2 = .slice G dk.blk.length k)
    (h : wpList Try.prog ops Q rs (a.put o.dst (.agg (stv d (St.bare dk d) none 0 0 G k).toArray)) w) : wpList Try.prog ops Q (o :: rs) a w :=
  wpList_plain hgd fun K hK => by
    unfold Oper.wp execOp
    have e : (#[(0, x0), (2, x1), (4, x2)] : Array (Nat × Operand)).map (fun x => (x.1, a.eval x.2)) = #[(0, .pointer (some ⟨d, 0, none⟩)), (2, .int .i64 1), (4, .slice G dk.blk.length k)] := by simp [h0, h1, h2]
    simp only [ho, e, run_build w 75 #[(0, .pointer (some ⟨d, 0, none⟩)), (2, .int .i64 1), (4, .slice G dk.blk.length k)] _ (built_st3 d dk G k), Sem.run_bind, Sem.run_pure, Result.andThen_ok]
    exact hK _ _ h
theorem build_ct2 (hgd : o.guard = none) (x0 x1 : Operand) (ho : o.op = .build 37 #[(4, x0), (5, x1)]) (A : Option Addr) (n k : Nat) (h0 : a.eval x0 = .agg #[.int .i64 0, .int .i64 0, .int .i64 0, .int .i64 0]) (h1 : a.eval x1 = .slice A n k)
    (h : wpList Try.prog ops Q rs (a.put o.dst (.agg (ctv Ct.zero A n k).toArray)) w) : wpList Try.prog ops Q (o :: rs) a w :=
  wpList_plain hgd fun K hK => by
    unfold Oper.wp execOp
    have e : (#[(4, x0), (5, x1)] : Array (Nat × Operand)).map (fun x => (x.1, a.eval x.2)) = #[(4, .agg #[.int .i64 0, .int .i64 0, .int .i64 0, .int .i64 0]), (5, .slice A n k)] := by simp [h0, h1]
    simp only [ho, e, run_build w 37 #[(4, .agg #[.int .i64 0, .int .i64 0, .int .i64 0, .int .i64 0]), (5, .slice A n k)] _ (built_ct2 A n k), Sem.run_bind, Sem.run_pure, Result.andThen_ok]
    exact hK _ _ h
end
theorem StLay.fresh3 {w : World} {Fd : Nat → Prop} {d b g k : Nat} {dk : Dk} (h : DiskAt w Fd d dk) (hb : Arr w b 75 (stv d (St.bare dk d) none 0 0 (some ⟨g, 0, none⟩) k)) (hn : ¬ Fd b) (hg : RowN w 0 4 1 (some ⟨g, 0, none⟩) (allF dk.blk.length).length k (bvals (allF dk.blk.length))) (hng : ¬ Fd g) : StLay w (fun q => Fd q ∨ q = b ∨ q = g) b (St.bare dk d) Fd d none 0 0 (some ⟨g, 0, none⟩) k where
  st := hb
  dk := h
  fl := OwnF.nil _ _
  fr := hg
  ok := Ct.zero_right.ok
  slot := ⟨by show (0 : Int) ≤ 1; decide, by show (1 : Int) ≤ 1; decide⟩
  begun := ⟨by show (0 : Int) ≤ 0; decide, by show (0 : Int) ≤ 1000000000; decide⟩
  fb := Or.inr (Or.inl rfl)
  fA := fun a ha => by cases ha
  fG := fun a ha => by injection ha with ha; subst ha; exact Or.inr (Or.inr rfl)
  fd := fun q hq => Or.inl hq
  nb := hn
  nA := fun a ha => by cases ha
  nG := fun a ha => by injection ha with ha; subst ha; exact hng
  lt := fun q hq => by
    rcases hq with hq | rfl | rfl
    · exact h.lt q hq
    · exact hb.lt
    · exact (hg.lt _ rfl).2
  lc := rfl
theorem U8_of {w : World} {N : Nat} {F : Nat → Prop} {M : Value} {l : List (Int × Value)} {fs : Int → Option (List Int)} (h : MapR w N F M l fs) : ∀ n bs, fs n = some bs → bs.length ≤ 1000 ∧ ∀ j, j < bs.length → U8 (bs.getD j 0) := fun n bs hn => by
  cases hl : lookL l n with
  | none => rw [h.n n hl] at hn; cases hn
  | some v =>
    obtain ⟨bs', A, c, h1, h2, h3, h4, h5, h6, h7⟩ := h.e n v hl
    rw [h1] at hn
    injection hn with hn
    subst hn
    exact ⟨h5, h6.u8s⟩
set_option maxHeartbeats 16000000 in
theorem format_any (Fd : Nat → Prop) (d : Nat) (dk : Dk) (M : Value) (l : List (Int × Value)) (fs : Int → Option (List Int)) (w : World) (h : DiskAt w Fd d dk) (hw : dk.wt.length ≤ 500) (hv : dk.wrote ≤ 500000) (hm : MapR w w.heap.size Fd M l fs) :
    Calls Try.prog 8 #[.pointer (some ⟨d, 0, none⟩), .agg #[.int .i64 0, .int .i64 0, .int .i64 0, .int .i64 0], M] w (FormE Fd d (formF dk d fs) w) := by
  have H := Lib.hid h; have HM := Lib.hid hm
  have DOK := Lib.hid h.ok
  have n2 := h.ok.n2
  have LE := Lib.hid (fun v (k : Below w.heap.size w v) => len_eq Fd d dk v (h.stay (fun q hq => k.block q (h.lt q hq))))
  clear h hm
  go_enter Try.func8, Try.ntmps8
  go_wp2_with fail
  refine (LE.out _ ((Below.refl _ w).alloc (Nat.le_refl _) _)).mono ?_
  rintro e w1 ⟨rfl, rfl⟩
  by_cases h2 : dk.blk.length ≤ 2
  · have E : Hid (formF dk d fs = (1, St.bare dk d)) := Lib.hid (by unfold formF; rw [if_pos h2])
    have i1 : (dk.blk.length : Int) ≤ 2 := by omega
    clear h2
    go_wp2
    refine bodyPost_ret (v := .tuple #[.pointer none, .int .i64 1]) (by simp [results, Try.results8, go_sem]) rfl ?_
    rw [E.out]
    exact Or.inr ⟨by show (1 : Int) ≠ 0; decide, rfl, Fd, H.out.stay (fun q hq => ((Below.refl w.heap.size w).alloc (Nat.le_refl _) _).block q (H.out.lt q hq)), Keep.of_below ((Below.refl _ w).alloc (Nat.le_refl _) _), Sub.refl _ _⟩
  · have i1 : ¬ (dk.blk.length : Int) ≤ 2 := by omega
    have WP := Lib.hid (fun v (k : Below w.heap.size w v) => wipe_any Fd d dk v (H.out.stay (fun q hq => k.block q (H.out.lt q hq))) (by omega) (by omega) (by omega))
    have WL := Lib.hid (wipeF_len dk)
    have F1 : Hid (formF dk d fs = if (wipeF dk).1 ≠ 0 then ((wipeF dk).1, St.bare (wipeF dk).2 d) else if (saveF fs 255 1 (St.bare (wipeF dk).2 d) []).1 ≠ 0 then ((saveF fs 255 1 (St.bare (wipeF dk).2 d) []).1, (saveF fs 255 1 (St.bare (wipeF dk).2 d) []).2.1) else (saveF fs 255 1 (St.bare (wipeF dk).2 d) []).2.1.commit { Ct.zero with files := (saveF fs 255 1 (St.bare (wipeF dk).2 d) []).2.2 }) := Lib.hid (by unfold formF; rw [if_neg h2])
    have B1 := Lib.hid (show Below w.heap.size w (w.alloc (.cells #[.int .i64 0, .int .i64 0, .int .i64 0, .int .i64 0] 29 (0, 0))) from (Below.refl _ w).alloc (Nat.le_refl _) _)
    have CD : Hid (Arr (w.alloc (.cells #[.int .i64 0, .int .i64 0, .int .i64 0, .int .i64 0] 29 (0, 0))) w.heap.size 29 [.int .i64 0, .int .i64 0, .int .i64 0, .int .i64 0]) := Lib.hid (Arr.new w _ _)
    have H2 := Lib.hid h2
    clear h2
    go_wp2_with fail
    refine (WP.out _ B1.out).mono ?_
    rintro e w2 ⟨rfl, Fd2, hd2, k2, sb2⟩
    obtain ⟨cb, hcb⟩ : ∃ cb, cb = w.heap.size := ⟨_, rfl⟩
    have HCB := Lib.hid hcb
    rw [← hcb] at CD ⊢
    have D2 := Lib.hid hd2
    have K2 : Hid (Keep Fd w w2) := Lib.hid ((Keep.of_below B1.out).trans (Sub.refl _ _) k2)
    have SB2 : Hid (Sub Fd2 Fd w) := Lib.hid (fun q hq => by
      rcases sb2 q hq with e | e
      · exact Or.inl e
      · right; have := B1.out.size; omega)
    have NCB : Hid (¬ Fd2 cb ∧ ¬ Fd cb) := Lib.hid (by
      have hn : ¬ Fd cb := fun e => by have := H.out.lt _ e; omega
      refine ⟨fun e => ?_, hn⟩
      rcases sb2 _ e with e | e
      · exact hn e
      · have := CD.out.lt; omega)
    have C2 : Hid (Arr w2 cb 29 [.int .i64 0, .int .i64 0, .int .i64 0, .int .i64 0]) := Lib.hid (CD.out.same (k2.block cb CD.out.lt NCB.out.2))
    obtain ⟨DW, hDW⟩ : ∃ DW, (wipeF dk).2 = DW := ⟨_, rfl⟩
    obtain ⟨sw, hsw⟩ : ∃ sw, (wipeF dk).1 = sw := ⟨_, rfl⟩
    rw [hDW] at D2 WL F1
    rw [hsw] at F1 ⊢
    clear WP LE hd2 k2 sb2 hcb hDW hsw B1 CD
    by_cases hz : sw = 0
    · subst hz
      rw [if_neg (by decide)] at F1
      have LN2 := Lib.hid (len_eq Fd2 d DW w2 D2.out)
      have AF := Lib.hid (allfree_any DW.blk.length (by rw [WL.out.1]; exact n2) w2)
      go_wp2_with fail
      refine LN2.out.mono ?_
      rintro e w2' ⟨rfl, rfl⟩
      clear LN2
      go_wp2_with fail
      refine AF.out.mono ?_
      rintro e w3 ⟨g, cg, rfl, ol, b3⟩
      have OL := Lib.hid ol; have B3 := Lib.hid b3
      clear AF ol b3
      go_wp2_with (first | (with_reducible refine build_st3 rfl _ _ _ rfl d DW (some ⟨g, 0, none⟩) cg rfl rfl rfl ?_) | (with_reducible refine box_st rfl _ rfl d (St.bare DW d) none 0 0 (some ⟨g, 0, none⟩) cg rfl ?_))
      intro w4 l4 b4 z4
      obtain ⟨b, hb⟩ : ∃ b, b = w3.heap.size := ⟨_, rfl⟩
      rw [← hb] at l4 ⊢
      have B24 := Lib.hid (bstep B3.out b4)
      have GL : Hid (w2.heap.size ≤ g) := Lib.hid (OL.out.1.lt _ rfl).1
      have D4 := Lib.hid (D2.out.stay (fun q hq => B24.out.block q (D2.out.lt q hq)))
      have S4 : Hid (StLay w4 (fun q => Fd2 q ∨ q = b ∨ q = g) b (St.bare DW d) Fd2 d none 0 0 (some ⟨g, 0, none⟩) cg) := Lib.hid (StLay.fresh3 D4.out l4 (fun e => by have := D2.out.lt _ e; have := B3.out.size; omega) (by rw [allF_len]; exact (OL.out.1.below b4).weak (fun a ha => Nat.zero_le _)) (fun e => by have := D2.out.lt _ e; have := GL.out; omega))
      have K4 : Hid (Keep Fd w w4) := Lib.hid (K2.out.trans (Sub.refl _ _) (Keep.of_below B24.out))
      have SB4 : Hid (Sub (fun q => Fd2 q ∨ q = b ∨ q = g) Fd w) := Lib.hid (fun q hq => by
        have := K2.out.size; have := B3.out.size; have := GL.out
        rcases hq with hq | hq | hq
        · exact SB2.out q hq
        · right; omega
        · right; omega)
      have MP4 := Lib.hid ((HM.out.keep (Nat.le_refl _) K4.out SB4.out).more K4.out.size)
      have IN : Hid (StInv (St.bare DW d)) := Lib.hid ⟨allF_len _, by show DW.blk.length ≤ 512; rw [WL.out.1]; exact n2, ⟨by show (0 : Int) ≤ 0; decide, by show (0 : Int) ≤ 1000; decide⟩, ⟨by show (0 : Int) ≤ 0; decide, by show (0 : Int) ≤ 1000000; decide⟩⟩
      have SV := Lib.hid (save_any _ b (St.bare DW d) M l fs w4 ⟨_, _, _, _, _, _, _, S4.out⟩ IN.out (by show (0 : Int) ≤ 1000; decide) (by show DW.wt.length ≤ 1000; have := WL.out.2.1; omega) (by show DW.wrote ≤ 1000000; have := WL.out.2.2; omega) MP4.out)
      have KP := Lib.hid (saveF_keeps fs (U8_of HM.out) 255 1 (St.bare DW d) [] IN.out (by show (0 : Int) + 255 ≤ 1000000; decide))
      have NC4 : Hid (¬ (Fd2 cb ∨ cb = b ∨ cb = g)) := Lib.hid (fun e => by
        have := C2.out.lt; have := B3.out.size; have := GL.out
        rcases e with e | e | e
        · exact NCB.out.1 e
        · omega
        · omega)
      have C4 : Hid (Arr w4 cb 29 [.int .i64 0, .int .i64 0, .int .i64 0, .int .i64 0]) := Lib.hid (C2.out.below B24.out)
      obtain ⟨R, hR⟩ : ∃ R, saveF fs 255 1 (St.bare DW d) [] = R := ⟨_, rfl⟩
      rw [hR] at SV KP F1
      obtain ⟨sc, s5, sv⟩ := R
      clear l4 b4 z4 hb hR
      dsimp only at SV KP F1
      go_wp2_with fail
      refine SV.out.mono ?_
      rintro e w5 ⟨A, n, c, F5, rfl, ofl, nA, st5, k5, sb5⟩
      dsimp only at ofl st5
      have O5 := Lib.hid ofl; have NA5 := Lib.hid nA; have S5 := Lib.hid st5
      have C5 : Hid (Arr w5 cb 29 [.int .i64 0, .int .i64 0, .int .i64 0, .int .i64 0]) := Lib.hid (C4.out.same (k5.block cb C4.out.lt NC4.out))
      have K5 : Hid (Keep Fd w w5) := Lib.hid (K4.out.trans SB4.out k5)
      have SB5 : Hid (Sub F5 Fd w) := Lib.hid (SB4.out.trans sb5 K4.out.size)
      clear SV ofl nA st5 k5 sb5
      by_cases hs : sc = 0
      · subst hs
        rw [if_neg (by decide)] at F1
        have hsv : sv.length = n := O5.out.2.1
        have hn : n ≤ 255 := by have := KP.out.2.2.2.2.2.2.2.1; simp at this; omega
        obtain ⟨p1, p2, p3, p4, p5, p6, p7, p8, p9, p10⟩ := KP.out
        have CM := Lib.hid (commit_any F5 b s5 { Ct.zero with files := sv } w5.heap.size A n c w5 S5.out ⟨Ct.zero_right.ok.g, Ct.zero_right.ok.s, Ct.zero_right.ok.t, Ct.zero_right.ok.k⟩ hsv (by omega) O5.out.reads (Nat.le_refl _) NA5.out (by rw [p5]; show 2 ≤ DW.blk.length; rw [WL.out.1]; have := H2.out; omega) (by rw [p1]; exact ⟨by show (0 : Int) ≤ 0; decide, by show (0 : Int) ≤ 1000000; decide⟩) (by have h : (St.bare DW d).dk.wt.length = DW.wt.length := rfl; have := WL.out.2.1; omega) (by have h : (St.bare DW d).dk.wrote = DW.wrote := rfl; have := WL.out.2.2; omega))
        obtain ⟨y0, y1, y2, y3⟩ : w5.cell? ⟨cb, 0, none⟩ = some (.int .i64 0) ∧ w5.cell? ⟨cb, 1, none⟩ = some (.int .i64 0) ∧ w5.cell? ⟨cb, 2, none⟩ = some (.int .i64 0) ∧ w5.cell? ⟨cb, 3, none⟩ = some (.int .i64 0) := ⟨C5.out.cell 0, C5.out.cell 1, C5.out.cell 2, C5.out.cell 3⟩
        clear p1 p2 p3 p4 p5 p6 p7 p8 p9 p10
        go_wp2_with (with_reducible refine build_ct2 rfl _ _ rfl A n c rfl rfl ?_)
        refine CM.out.mono ?_
        rintro e w6 ⟨rfl, stp⟩
        have STP := Lib.hid (stp.on (F := Fd) (w := w) K5.out SB5.out)
        obtain ⟨T, hT⟩ : ∃ T, s5.commit { Ct.zero with files := sv } = T := ⟨_, rfl⟩
        have LC : Hid (T.2.loc = d) := Lib.hid (by rw [← hT, commit_loc]; exact KP.out.2.2.1)
        rw [hT] at STP F1 ⊢
        obtain ⟨st, s6⟩ := T
        dsimp only at STP F1 LC
        clear CM stp hT y0 y1 y2 y3
        by_cases hz : st = 0
        · subst hz
          go_wp2
          refine bodyPost_ret (v := .tuple #[.pointer (some ⟨b, 0, none⟩), .int .i64 0]) (by simp [results, Try.results8, go_sem]) rfl ?_
          rw [F1.out]
          obtain ⟨F6, h6, k6, sb6⟩ := STP.out
          exact Or.inl ⟨rfl, b, F6, rfl, h6, k6, sb6⟩
        · have ds : (st != 0) = true := by simpa using hz
          have HZ := Lib.hid hz
          clear hz
          go_wp2
          refine bodyPost_ret (v := .tuple #[.pointer none, .int .i64 st]) (by simp [results, Try.results8, go_sem]) rfl ?_
          rw [F1.out]
          obtain ⟨F6, h6, k6, sb6⟩ := STP.out
          obtain ⟨Fd6, h7, h8⟩ := h6.disk
          rw [LC.out] at h7
          exact Or.inr ⟨HZ.out, rfl, Fd6, h7, k6, fun q hq => sb6 q (h8 q hq)⟩
      · have ds : (sc == 0) = false := by rw [beq_eq_false_iff_ne]; exact hs
        have E : Hid (formF dk d fs = (sc, s5)) := Lib.hid (by rw [F1.out, if_pos hs])
        have HS := Lib.hid hs
        clear hs F1
        go_wp2
        refine bodyPost_ret (v := .tuple #[.pointer none, .int .i64 sc]) (by simp [results, Try.results8, go_sem]) rfl ?_
        rw [E.out]
        obtain ⟨Fd6, h6, h7⟩ := S5.out.disk
        rw [KP.out.2.2.1] at h6
        exact Or.inr ⟨HS.out, rfl, Fd6, h6, K5.out, fun q hq => SB5.out q (h7 q hq)⟩
    · have ds : (sw != 0) = true := by simpa using hz
      have E : Hid (formF dk d fs = (sw, St.bare DW d)) := Lib.hid (by rw [F1.out, if_pos hz])
      have HZ := Lib.hid hz
      clear hz F1
      go_wp2
      refine bodyPost_ret (v := .tuple #[.pointer none, .int .i64 sw]) (by simp [results, Try.results8, go_sem]) rfl ?_
      rw [E.out]
      exact Or.inr ⟨HZ.out, rfl, Fd2, D2.out, K2.out, SB2.out⟩
end Go.Proofs.Ytilmicekpclmbaa
namespace Go.Proofs.Ytilmicekpclmbaa
set_option linter.unusedVariables false
set_option linter.unusedSimpArgs false
set_option maxRecDepth 100000
open Go.RowKit

/-- Which files there should be, by rising names. -/
def want (fs : Int → Option (List Int)) : Nat → Int → List (Int × List Int)
  | 0, _ => []
  | k + 1, nm => match fs nm with | none => want fs k (nm + 1) | some bs => (nm, bs) :: want fs k (nm + 1)
def told (fl : List (Fl × List (Int × List Int))) : List (Int × List Int) := fl.map (fun x => (x.1.name, (x.2.map (·.2)).flatten))
structure SaveOk (s' : St) (fl fl' : List (Fl × List (Int × List Int))) (sv : List Fl) (wn : List (Int × List Int)) : Prop where
  e : sv = (fl ++ fl').map (·.1)
  h : Has s'.dk s'.free (fl ++ fl')
  w : told fl' = wn
  r : ∀ x, x ∈ fl' → 1 ≤ x.1.file ∧ x.1.file ≤ 65535 ∧ x.1.blocks ≤ 512
  z : ∀ x, x ∈ fl' → Full x.2
theorem saveF_made (fs : Int → Option (List Int)) (hf : ∀ n bs, fs n = some bs → bs.length ≤ 1000 ∧ ∀ j, j < bs.length → U8 (bs.getD j 0)) (hsm : ∀ n, 20 < n → fs n = none) : ∀ (k : Nat) (nm : Int) (s : St) (fl : List (Fl × List (Int × List Int))), StInv s → s.dk.Free → s.dk.Ok → FreeOk s.free → Has s.dk s.free fl → s.begun < nm →
    (saveF fs k nm s (fl.map (·.1))).2.1.dk.Free ∧ (saveF fs k nm s (fl.map (·.1))).2.1.dk.Ok ∧ FreeOk (saveF fs k nm s (fl.map (·.1))).2.1.free ∧ ((saveF fs k nm s (fl.map (·.1))).1 = 0 ∨ (saveF fs k nm s (fl.map (·.1))).1 = 5) ∧ ((saveF fs k nm s (fl.map (·.1))).1 = 0 → ∃ fl', SaveOk (saveF fs k nm s (fl.map (·.1))).2.1 fl fl' (saveF fs k nm s (fl.map (·.1))).2.2 (want fs k nm)) ∧ (∀ j, (saveF fs k nm s (fl.map (·.1))).2.1.free.getD j false = true → s.free.getD j false = true) ∧ (∀ j : Int, (∀ k : Nat, j = k → s.free.getD k false = false) → leafD (saveF fs k nm s (fl.map (·.1))).2.1.dk j = leafD s.dk j)
  | 0, nm, s, fl, i, fr, ok, fo, h, hb => ⟨fr, ok, fo, Or.inl rfl, fun _ => ⟨[], by show fl.map (·.1) = _; rw [List.append_nil], by rw [List.append_nil]; exact h, rfl, fun x hx => absurd hx (by simp), fun x hx => absurd hx (by simp)⟩, fun _ h => h, fun _ _ => rfl⟩
  | k + 1, nm, s, fl, i, fr, ok, fo, h, hb => by
    cases hn : fs nm with
    | none =>
      rw [saveF_none hn]
      have e : want fs (k + 1) nm = want fs k (nm + 1) := by show (match fs nm with | none => _ | some bs => _) = _; rw [hn]
      rw [e]
      exact saveF_made fs hf hsm k (nm + 1) s fl i fr ok fo h (by omega)
    | some bs =>
      obtain ⟨h1, h2⟩ := hf nm bs hn
      have hnm : nm ≤ 20 := by
        rcases Int.lt_or_le 20 nm with e | e
        · rw [hsm nm e] at hn; cases hn
        · exact e
      have M := makeF_ok i fr ok fo nm bs h2 (by omega)
      obtain ⟨m1, m2, m3, m4, m5, m6, m7, m8⟩ := makeF_keeps i nm h2
      have i1 := i.fr; have i2 := i.b2; have i3 := i.g; have i4 := i.bg
      obtain ⟨H1, H2⟩ := h.made M
      by_cases h0 : (makeF s nm bs).1.2 = 0
      · rw [saveF_ok hn h0]
        obtain ⟨q1, q2, q3, l, q4, qF, q5⟩ := H2 h0
        have e : want fs (k + 1) nm = (nm, bs) :: want fs k (nm + 1) := by show (match fs nm with | none => _ | some bs => _) = _; rw [hn]
        have es : fl.map (·.1) ++ [(makeF s nm bs).1.1] = (fl ++ [((makeF s nm bs).1.1, l)]).map (·.1) := by simp
        rw [es]
        obtain ⟨R1, R2, R3, R4, R5, R6, R7⟩ := saveF_made fs hf hsm k (nm + 1) (makeF s nm bs).2 (fl ++ [((makeF s nm bs).1.1, l)]) ⟨by omega, by omega, by rw [m1]; exact i3, by omega⟩ M.fr M.ok M.fo q5 (by omega)
        refine ⟨R1, R2, R3, R4, fun e0 => ?_, fun j hj => M.le j (R6 j hj), fun j hj => ?_⟩
        · obtain ⟨fl', P⟩ := R5 e0
          refine ⟨((makeF s nm bs).1.1, l) :: fl', ?_, ?_, ?_, ?_, fun x hx => (by
            rcases List.mem_cons.1 hx with hx | hx
            · subst hx; exact qF
            · exact P.z x hx)⟩
          · rw [P.e]; simp
          · have := P.h; simpa using this
          · show ((makeF s nm bs).1.1.name, (l.map (·.2)).flatten) :: told fl' = _
            rw [e, P.w, q1, q4]
          · intro x hx
            rcases List.mem_cons.1 hx with hx | hx
            · subst hx
              exact ⟨by show 1 ≤ (makeF s nm bs).1.1.file; rw [q2]; omega, by show (makeF s nm bs).1.1.file ≤ 65535; rw [q2]; omega, q3⟩
            · exact P.r x hx
        · rw [R7 j (fun k hk => by
            cases e : (makeF s nm bs).2.free.getD k false
            · rfl
            · have := M.le k e
              rw [hj k hk] at this; cases this)]
          exact M.lf j hj
      · rw [saveF_bad hn h0]
        refine ⟨M.fr, M.ok, M.fo, ?_, fun e => absurd e h0, M.le, M.lf⟩
        rcases M.st with e | e
        · exact absurd e h0
        · exact Or.inr e
end Go.Proofs.Ytilmicekpclmbaa
namespace Go.Proofs.Ytilmicekpclmbaa
set_option linter.unusedVariables false
set_option linter.unusedSimpArgs false
set_option maxRecDepth 100000
open Go.RowKit

theorem Ch.lt {s : Dk} (ok : s.Ok) {nr : Int} : ∀ {l : List (Int × List Int)} {p fin : Int}, Ch s nr p l fin → ∀ x, x ∈ l → x.1 < s.blk.length
  | [], p, fin, _, x, hx => absurd hx (by simp)
  | y :: r, p, fin, h, x, hx => by
    obtain ⟨h1, ⟨L, g1, g2⟩, h3⟩ := h
    rcases List.mem_cons.1 hx with e | hx
    · subst e; exact (leafD_right ok g1).2.2.2.1
    · exact Ch.lt ok h3 x hx
theorem Has.lt {s : Dk} (ok : s.Ok) {free : List Bool} {fl : List (Fl × List (Int × List Int))} (h : Has s free fl) : ∀ a, a ∈ blks fl → a < s.blk.length := fun a ha => by
  unfold blks at ha
  obtain ⟨m, hm, ha⟩ := List.mem_flatten.1 ha
  obtain ⟨x, hx, rfl⟩ := List.mem_map.1 hm
  obtain ⟨y, hy, rfl⟩ := List.mem_map.1 ha
  exact (h.l x hx).c.lt ok y hy
theorem allF_at (n j : Nat) : (allF n).getD j false = true ↔ (2 ≤ j ∧ j < n) := by
  unfold allF
  rw [List.getD_eq_getElem?_getD, List.getElem?_map]
  rcases Nat.lt_or_ge j n with e | e
  · rw [List.getElem?_range e]; simp [e]
  · rw [List.getElem?_eq_none (by simpa using e)]; simp; omega
theorem flush_wt0 {s : Dk} (h : s.goes = true) : s.flush.wt = [] := by unfold Dk.flush; rw [if_pos h]
structure ComOk (s s' : St) (c : Ct) (fl : List (Fl × List (Int × List Int))) : Prop where
  fr : s'.dk.Free
  ok : s'.dk.Ok
  len : s'.dk.blk.length = s.dk.blk.length
  cat : s'.cat = c
  slot : s'.slot = 1 - s.slot
  beg : s'.begun = 0
  loc : s'.loc = s.loc
  wt : s'.dk.wt = []
  fl_ : s'.free.length = s.dk.blk.length
  free : ∀ j : Nat, s'.free.getD j false = true ↔ (2 ≤ j ∧ j < s.dk.blk.length ∧ (j : Int) ∉ blks fl)
  has : Has s'.dk s'.free fl
  lf : ∀ j : Int, leafD s'.dk j = if j = 1 - s.slot then some c.leaf else leafD s.dk j
theorem commit_made {s : St} {c : Ct} {fl : List (Fl × List (Int × List Int))} (fr : s.dk.Free) (ok : s.dk.Ok) (hs : 0 ≤ s.slot ∧ s.slot ≤ 1) (h2 : 2 ≤ s.dk.blk.length) (h : Has s.dk s.free fl) (hc : c.files = fl.map (·.1)) (hr : ({ c with gen := s.cat.gen + 1 } : Ct).Right) :
    (s.commit c).1 = 0 ∧ ComOk s (s.commit c).2 { c with gen := s.cat.gen + 1 } fl := by
  obtain ⟨c', hc'⟩ : ∃ c', ({ c with gen := s.cat.gen + 1 } : Ct) = c' := ⟨_, rfl⟩
  have hcf : c'.files = fl.map (·.1) := by rw [← hc']; exact hc
  rw [hc'] at hr
  have hpl : c'.putL = c'.leaf := Ct.putL_yes hr
  have lok := Ct.leaf_ok hr
  have lrt := Ct.leaf_right hr
  obtain ⟨i, hi⟩ : ∃ i : Nat, 1 - s.slot = (i : Int) := ⟨(1 - s.slot).toNat, by omega⟩
  have f1 := fr.flush'
  have o1 := ok.flush
  have n1 := (Dk.flush_len s.dk).1
  have hi1 : i < s.dk.flush.blk.length := by rw [n1]; omega
  have f2 := f1.write' i c'.leaf.put
  have o2 := o1.write i c'.leaf.put hi1 ⟨Lf.put_len lok, Lf.put_u8 lok lrt⟩
  have n2 := (Dk.write_len s.dk.flush i c'.leaf.put).1
  have f3 := f2.flush'
  have o3 := o2.flush
  have n3 := (Dk.flush_len (s.dk.flush.write i c'.leaf.put)).1
  have w3 : (s.dk.flush.write i c'.leaf.put).flush.wt = [] := flush_wt0 f2.goes
  have L3 : ∀ j : Int, leafD (s.dk.flush.write i c'.leaf.put).flush j = if j = (i : Int) then some c'.leaf else leafD s.dk j := fun j => by
    rw [leafD_flush f2 o2, leafD_write f1 hi1 lok lrt, leafD_flush fr ok]
  have E : s.commit c = (let t : St := { s with dk := (s.dk.flush.write i c'.leaf.put).flush, cat := c', slot := (i : Int), begun := 0 }
      (t.scanned.1, { t with free := if t.scanned.1 = 0 then t.scanned.2 else t.free })) := by
    unfold St.commit
    rw [hc', if_neg (by rw [Ct.rt_iff.2 hr]; decide), if_neg (by rw [Dk.says_goes fr.goes]; decide), if_neg (by rw [Dk.says_goes f1.goes]; decide), hpl, hi, Int.toNat_natCast, if_neg (by rw [Dk.says_goes f2.goes]; decide)]
  obtain ⟨d3, hd3⟩ : ∃ d3, (s.dk.flush.write i c'.leaf.put).flush = d3 := ⟨_, rfl⟩
  rw [hd3] at E f3 o3 n3 w3 L3
  have hn : d3.blk.length = s.dk.blk.length := n3.trans (n2.trans n1)
  have H3 : Has d3 s.free fl := ⟨fun x hx => (h.l x hx).keep (fun y hy => by
    have h2' := (h.r _ (mem_blks hx hy)).1
    rw [L3, if_neg (by omega)]), h.n, h.r⟩
  obtain ⟨fr', e1, e2, e3⟩ := scan_ok f3.off fl (allF d3.blk.length) H3.l h.n (fun a ha => ⟨by have := (h.r a ha).1; omega, (allF_at _ _).2 ⟨by have := (h.r a ha).1; omega, by have := H3.lt o3 a ha; have := (h.r a ha).1; omega⟩⟩)
  have SC : ({ s with dk := d3, cat := c', slot := (i : Int), begun := 0 } : St).scanned = (0, fr') := by
    unfold St.scanned
    show scanR d3 (allF d3.blk.length) c'.files = _
    rw [hcf]; exact e1
  have E2 : s.commit c = (0, { s with dk := d3, cat := c', slot := (i : Int), begun := 0, free := fr' }) := by
    rw [E]
    show (({ s with dk := d3, cat := c', slot := (i : Int), begun := 0 } : St).scanned.1, ({ s with dk := d3, cat := c', slot := (i : Int), begun := 0, free := if ({ s with dk := d3, cat := c', slot := (i : Int), begun := 0 } : St).scanned.1 = 0 then ({ s with dk := d3, cat := c', slot := (i : Int), begun := 0 } : St).scanned.2 else s.free } : St)) = _
    rw [SC]; rfl
  rw [E2, hc']
  have e3' : ∀ j : Nat, fr'.getD j false = true ↔ (2 ≤ j ∧ j < s.dk.blk.length ∧ (j : Int) ∉ blks fl) := fun j => by
    rw [e3, allF_at, hn]
    exact ⟨fun ⟨⟨a, b⟩, c⟩ => ⟨a, b, c⟩, fun ⟨a, b, c⟩ => ⟨⟨a, b⟩, c⟩⟩
  refine ⟨rfl, f3, o3, hn, rfl, hi.symm, rfl, rfl, w3, by show fr'.length = _; rw [e2, allF_len, hn], e3', ⟨H3.l, h.n, fun a ha => ⟨(h.r a ha).1, ?_⟩⟩, fun j => by rw [hi]; exact L3 j⟩
  cases q : fr'.getD a.toNat false
  · rfl
  · have := ((e3' _).1 q).2.2
    rw [Int.toNat_of_nonneg (by have := (h.r a ha).1; omega)] at this
    exact absurd ha this
end Go.Proofs.Ytilmicekpclmbaa
namespace Go.Proofs.Ytilmicekpclmbaa
set_option linter.unusedVariables false
set_option linter.unusedSimpArgs false
set_option maxRecDepth 100000
open Go.RowKit

theorem leafD_raw {s : Dk} (h : s.Free) {i : Nat} (hi : i < s.blk.length) (b : List Int) (j : Int) : leafD (s.write i b) j = if j = i then getLf b else leafD s j := by
  have hb : (s.write i b).blk.length = s.blk.length := by rw [h.write]
  by_cases hj : 0 ≤ j ∧ j < s.blk.length
  · have e1 : leafD (s.write i b) j = ((s.write i b).read j.toNat).bind getLf := by unfold leafD; rw [if_pos (by rw [hb]; exact hj)]
    have e2 : leafD s j = (s.read j.toNat).bind getLf := by unfold leafD; rw [if_pos hj]
    rw [e1, e2, Dk.read_write h.goes]
    by_cases hij : j = i
    · rw [if_pos (by omega), if_pos hij]; rfl
    · rw [if_neg (by omega), if_neg hij]
  · have e1 : leafD (s.write i b) j = none := by unfold leafD; rw [if_neg (by rw [hb]; exact hj)]
    have e2 : leafD s j = none := by unfold leafD; rw [if_neg hj]
    rw [e1, e2, if_neg (by omega)]
theorem getLf_wipe : getLf wipeB = none := by
  unfold getLf
  rw [if_neg]
  rintro ⟨-, -, r⟩
  have h := r.k
  have e : (unput wipeB).kind = 0 := by
    show wipeB.getD 0 0 = 0
    unfold wipeB; exact zeros_at _ _
  rw [e] at h
  rcases h with h | h
  · cases h
  · cases h
theorem wipe_made {s : Dk} (fr : s.Free) (ok : s.Ok) (h2 : 2 ≤ s.blk.length) : (wipeF s).1 = 0 ∧ (wipeF s).2.Free ∧ (wipeF s).2.Ok ∧ (wipeF s).2.blk.length = s.blk.length ∧ (wipeF s).2.wt = [] ∧ ∀ j : Int, leafD (wipeF s).2 j = if j = 0 ∨ j = 1 then none else leafD s j := by
  have f1 := fr.write' 0 wipeB
  have o1 := ok.write 0 wipeB (by omega) wipeB_blk
  have n1 := (Dk.write_len s 0 wipeB).1
  have f2 := f1.write' 1 wipeB
  have o2 := o1.write 1 wipeB (by rw [n1]; omega) wipeB_blk
  have n2 := (Dk.write_len (s.write 0 wipeB) 1 wipeB).1
  have E : wipeF s = (0, ((s.write 0 wipeB).write 1 wipeB).flush) := by
    unfold wipeF
    rw [if_pos (Dk.says_goes fr.goes), if_pos (Dk.says_goes f1.goes), Dk.says_goes f2.goes]
  rw [E]
  refine ⟨rfl, f2.flush', o2.flush, ((Dk.flush_len _).1).trans (n2.trans n1), flush_wt0 f2.goes, fun j => ?_⟩
  rw [leafD_flush f2 o2, leafD_raw f1 (by rw [n1]; omega), leafD_raw fr (by omega), getLf_wipe]
  by_cases e1 : j = 1
  · rw [if_pos (by exact e1), if_pos (Or.inr e1)]
  · by_cases e0 : j = 0
    · rw [if_neg (by exact e1), if_pos (by exact e0), if_pos (Or.inl e0)]
    · rw [if_neg (by exact e1), if_neg (by exact e0), if_neg (by omega)]
end Go.Proofs.Ytilmicekpclmbaa
