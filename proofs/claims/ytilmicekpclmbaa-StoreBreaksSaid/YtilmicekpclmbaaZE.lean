/-
  Package store: Commit.
  Package store: Open.
  Package store: wipe.
  Package store: maps whose keys are numbers and whose elements are any values: what lies in them, key by key.
  Package store: what Put and Close keep.
  Package store: saveAll: each file that has a name, by rising names.
-/
import Derived.Test.YtilmicekpclmbaaZD
import Derived.Test.YtilmicekpclmbaaCPd
import Derived.Maps.OwnSet
namespace Go.Proofs.Ytilmicekpclmbaa
set_option linter.unusedVariables false
set_option linter.unusedSimpArgs false
set_option maxRecDepth 100000
open Go.RowKit

section
variable {w w' : World} {F : Nat → Prop} {b : Nat} {s : St} {Fd : Nat → Prop} {d : Nat} {A : Option Addr} {n c : Nat} {G : Option Addr} {k : Nat}
/-- Another catalog, with its own row of files. -/
theorem StLay.newcat {ct : Ct} {A' : Option Addr} {n' c' : Nat} (h : StLay w F b s Fd d A n c G k) (hf : OwnF w 0 A' n' c' ct.files) (hA : ∀ a, A' = some a → ¬ F a.block) (ok : ct.Ok) :
    StLay (w.setCells b 1 (ctv ct A' n' c')) (fun q => F q ∨ ∃ a, A' = some a ∧ q = a.block) b { s with cat := ct } Fd d A' n' c' G k ∧ Keep (· = b) w (w.setCells b 1 (ctv ct A' n' c')) ∧ (w.setCells b 1 (ctv ct A' n' c')).heap.size = w.heap.size := by
  obtain ⟨h1, h2, h3⟩ := Arr.setMid (b := b) (T := 75) (ctv ct A' n' c') (ctv s.cat A n c) [.pointer (some ⟨d, 0, none⟩)] [.int .i64 s.slot, .int .i64 s.begun, .slice G s.free.length k] w rfl h.st
  have nbf : ∀ q, F q → q ≠ b → (w.setCells b 1 (ctv ct A' n' c')).heap[q]? = w.heap[q]? := fun q hq hne => h2.block q (h.lt q hq) hne
  refine ⟨⟨h1, h.dk.stay (fun q hq => nbf q (h.fd q hq) (fun e => h.nb (by rw [← e]; exact hq))), hf.same (fun a ha => h2.block _ (hf.lt a ha).2 (fun e => hA a ha (by have e : a.block = b := e; rw [e]; exact h.fb))), h.fr.same (fun a ha => nbf _ (h.fG a ha) (h.fr.ne (r := b) (T := 75) h.st (by decide) a ha)), ok, h.slot, h.begun, Or.inl h.fb, fun a ha => Or.inr ⟨a, ha, rfl⟩, fun a ha => Or.inl (h.fG a ha), fun q hq => Or.inl (h.fd q hq), h.nb, fun a ha e => hA a ha (h.fd _ e), h.nG, fun q hq => ?_, h.lc⟩, h2, h3⟩
  show q < (w.setCells b [Value.pointer (some ⟨d, 0, none⟩)].length (ctv ct A' n' c')).heap.size
  rw [h3]
  rcases hq with hq | ⟨a, ha, rfl⟩
  · exact h.lt q hq
  · exact (hf.lt a ha).2
end
section
variable {ops : Array Oper} {rs : List Oper} {o : Oper} {a : Act} {w : World} {Q : Exit → Act → World → Prop}
theorem store_cat (hgd : o.guard = none) (x y : Operand) (ho : o.op = .store 37 x y) {F : Nat → Prop} {b : Nat} {s : St} {Fd : Nat → Prop} {d : Nat} {A : Option Addr} {n c : Nat} {G : Option Addr} {k : Nat} (h0 : StLay w F b s Fd d A n c G k) (ct : Ct) (A' : Option Addr) (n' c' : Nat) (hf : OwnF w 0 A' n' c' ct.files) (hA : ∀ a, A' = some a → ¬ F a.block) (ok : ct.Ok) (hx : a.eval x = .pointer (some ⟨b, 1, none⟩)) (hy : a.eval y = .agg (ctv ct A' n' c').toArray)
    (h : ∀ w1, StLay w1 (fun q => F q ∨ ∃ a, A' = some a ∧ q = a.block) b { s with cat := ct } Fd d A' n' c' G k → Keep (· = b) w w1 → w1.heap.size = w.heap.size → wpList Try.prog ops Q rs (a.put o.dst undef) w1) : wpList Try.prog ops Q (o :: rs) a w :=
  wpList_plain hgd fun K hK => by
    have run := run_storeVar_mid (P := Try.prog) w b 1 37 (ctv ct A' n' c').toArray (by
      rw [List.size_toArray]
      exact WrAt.range h0.st (by simp [ctv, stv])) (by rw [List.size_toArray]; exact Try.size_ct) (all_oneCell_toArray (ctv_one ct A' n' c'))
    obtain ⟨h1, h2, h3⟩ := h0.newcat hf hA ok
    unfold Oper.wp execOp
    simp only [ho, hx, hy, Instr.storeAt, Instr.sureAddr, Sem.run_bind, Sem.run_pure, Result.andThen_ok, run]
    exact hK _ _ (h _ h1 h2 h3)
end
theorem Dk.flush_len (s : Dk) : s.flush.blk.length = s.blk.length ∧ s.flush.wt.length ≤ s.wt.length ∧ s.flush.wrote = s.wrote := by
  unfold Dk.flush
  split
  · obtain ⟨e1, e2, e3, e4, e5⟩ := Dk.lands_same s.wt s.burn
    exact ⟨e5, by simp, e4⟩
  · exact ⟨rfl, by simp [Dk.down], rfl⟩
/-- What Commit answers, and makes of the store. -/
noncomputable def St.commit (s : St) (c : Ct) : Int × St :=
  if ({ c with gen := s.cat.gen + 1 } : Ct).rt = false then (1, s)
  else if s.dk.says ≠ 0 then (s.dk.says, { s with dk := s.dk.flush })
  else if s.dk.flush.says ≠ 0 then (s.dk.flush.says, { s with dk := s.dk.flush.write (1 - s.slot).toNat ({ c with gen := s.cat.gen + 1 } : Ct).putL.put })
  else if (s.dk.flush.write (1 - s.slot).toNat ({ c with gen := s.cat.gen + 1 } : Ct).putL.put).says ≠ 0 then ((s.dk.flush.write (1 - s.slot).toNat ({ c with gen := s.cat.gen + 1 } : Ct).putL.put).says, { s with dk := (s.dk.flush.write (1 - s.slot).toNat ({ c with gen := s.cat.gen + 1 } : Ct).putL.put).flush })
  else
    let t : St := { s with dk := (s.dk.flush.write (1 - s.slot).toNat ({ c with gen := s.cat.gen + 1 } : Ct).putL.put).flush, cat := { c with gen := s.cat.gen + 1 }, slot := 1 - s.slot, begun := 0 }
    (t.scanned.1, { t with free := if t.scanned.1 = 0 then t.scanned.2 else t.free })
set_option maxHeartbeats 16000000 in
theorem commit_any (F b s) (ct : Ct) (N : Nat) (A0 : Option Addr) (n0 c0 : Nat) (w : World) (h : StAt w F b s) (ok : ct.Ok) (hl : ct.files.length = n0) (hm : n0 ≤ 1000) (hr : FlR w N A0 ct.files) (hN : N ≤ w.heap.size) (hA0 : ∀ a, A0 = some a → ¬ F a.block) (hb2 : 2 ≤ s.dk.blk.length) (hg : 0 ≤ s.cat.gen ∧ s.cat.gen ≤ 1000000) (hw : s.dk.wt.length ≤ 900000) (hv : s.dk.wrote ≤ 900000000000) :
    Calls Try.prog 31 #[.pointer (some ⟨b, 0, none⟩), .agg (ctv ct A0 n0 c0).toArray] w fun e w' => e = .returned (.int .i64 (s.commit ct).1) ∧ StStep F b (s.commit ct).2 w w' := by
  obtain ⟨Fd, d, A, n, c, G, k, hla⟩ := h
  have HL := Lib.hid hla
  have HR := Lib.hid hr; have OK := Lib.hid ok; have HLEN := Lib.hid hl
  have HG := Lib.hid hg
  obtain ⟨hg0, hg1⟩ := hg
  clear hla hr ok hl
  go_enter Try.func31, Try.ntmps31
  go_wp2_with (with_reducible refine box_ct rfl _ rfl ct A0 n0 c0 rfl ?_)
  intro w1 l1 b1 s1
  obtain ⟨r, hrr⟩ : ∃ r, r = w.heap.size := ⟨_, rfl⟩
  rw [← hrr] at l1 ⊢
  have C1 : Hid (CtAt w1 r ct A0 n0 c0) := Lib.hid l1
  have B1 := Lib.hid b1
  have S1 := Lib.hid (HL.out.below b1)
  have HRW := Lib.hid hrr
  have x0 : w1.cell? ⟨r, 0, none⟩ = some (.int .i64 ct.gen) := Arr.cell l1 0
  have z0 : w1.frozen? ⟨r, 0, none⟩ = false := Arr.frozen l1 0
  have y1 : w1.cell? ⟨b, 1, none⟩ = some (.int .i64 s.cat.gen) := S1.out.cells.2.1
  obtain ⟨ct', hct'⟩ : ∃ ct', ct' = ({ ct with gen := s.cat.gen + 1 } : Ct) := ⟨_, rfl⟩
  have C2 : Hid (CtAt (w1.setCell ⟨r, 0, none⟩ (.int .i64 (s.cat.gen + 1))) r ct' A0 n0 c0) := Lib.hid (by rw [hct']; exact Arr.set l1 0 _)
  have OK' : Hid ct'.Ok := Lib.hid (by rw [hct']; exact ⟨⟨by show -9223372036854775808 ≤ s.cat.gen + 1; omega, by show s.cat.gen + 1 ≤ 9223372036854775807; omega⟩, OK.out.s, OK.out.t, OK.out.k⟩)
  have HF' : Hid (ct'.files = ct.files) := Lib.hid (by rw [hct'])
  have E0 : Hid (s.commit ct = if ct'.rt = false then (1, s)
      else if s.dk.says ≠ 0 then (s.dk.says, { s with dk := s.dk.flush })
      else if s.dk.flush.says ≠ 0 then (s.dk.flush.says, { s with dk := s.dk.flush.write (1 - s.slot).toNat ct'.putL.put })
      else if (s.dk.flush.write (1 - s.slot).toNat ct'.putL.put).says ≠ 0 then ((s.dk.flush.write (1 - s.slot).toNat ct'.putL.put).says, { s with dk := (s.dk.flush.write (1 - s.slot).toNat ct'.putL.put).flush })
      else
        let t : St := { s with dk := (s.dk.flush.write (1 - s.slot).toNat ct'.putL.put).flush, cat := ct', slot := 1 - s.slot, begun := 0 }
        (t.scanned.1, { t with free := if t.scanned.1 = 0 then t.scanned.2 else t.free })) := Lib.hid (by rw [hct']; rfl)
  have HCT := Lib.hid hct'
  have B2 : Hid (Below w.heap.size w (w1.setCell ⟨r, 0, none⟩ (.int .i64 (s.cat.gen + 1)))) := Lib.hid ((Keep.cellF (F := (· = r)) (a := ⟨r, 0, none⟩) (Keep.refl _ w1) rfl _).below (fun j hj => by have hj : j = r := hj; omega) B1.out B1.out.size)
  have S2 := Lib.hid (HL.out.below B2.out)
  have RT := Lib.hid (cat_any ct' OK'.out N A0 n0 c0 (w1.setCell ⟨r, 0, none⟩ (.int .i64 (s.cat.gen + 1))) (by rw [HF'.out]; exact HLEN.out) (by unfold maxLen; omega) (by rw [HF'.out]; exact HR.out.below (B2.out.mono hN)) (by have := B2.out.size; omega))
  clear l1 b1 s1 hrr hct'
  go_wp2_with (with_reducible refine load_ct rfl _ rfl r ct' A0 n0 c0 C2.out rfl ?_)
  refine RT.out.mono ?_
  rintro e w3 ⟨rfl, b3⟩
  have C3 : Hid (CtAt w3 r ct' A0 n0 c0) := Lib.hid (C2.out.below b3)
  have S3 := Lib.hid (S2.out.below b3)
  have B3 := Lib.hid (bstep B2.out b3)
  obtain ⟨u0, u1, u9, u10, u11, u12⟩ := S3.out.cells
  clear RT C1 C2 S1 S2 B1 B2 b3 x0 z0 y1
  cases hrt : ct'.rt
  · have E : Hid (s.commit ct = (1, s)) := Lib.hid (by rw [E0.out, if_pos hrt])
    clear E0 hrt
    go_wp2
    go_ret
    rw [E.out]
    exact ⟨rfl, StStep.of_below ⟨_, _, _, _, _, _, _, HL.out⟩ B3.out⟩
  · have RG := Lib.hid (Ct.rt_iff.1 hrt)
    obtain ⟨sl0, sl1⟩ := S3.out.slot
    obtain ⟨i, hi⟩ : ∃ i : Nat, 1 - s.slot = (i : Int) := ⟨(1 - s.slot).toNat, by omega⟩
    have i1 : i < s.dk.blk.length := by omega
    have HI := Lib.hid hi
    rw [if_neg (by rw [hrt]; decide), hi, Int.toNat_natCast] at E0
    have FL := Lib.hid (disk_flush Fd d s.dk w3 S3.out.dk (by omega))
    clear hrt
    go_wp2_with fail
    refine FL.out.mono ?_
    rintro e w4 ⟨rfl, st⟩
    obtain ⟨F4, Fd4, s4, k4, sb4⟩ := S3.out.disk st
    have S4 := Lib.hid s4; have SB4 := Lib.hid sb4
    have K4 := Lib.hid ((Keep.of_below (F := F) B3.out).trans (Sub.refl _ _) k4)
    have C4 : Hid (CtAt w4 r ct' A0 n0 c0) := Lib.hid (C3.out.keep k4 (fun e => by have := HL.out.lt _ e; have := HRW.out; omega))
    have SB04 : Hid (Sub F4 F w) := Lib.hid (fun q hq => by
      rcases sb4 q hq with e | e
      · exact Or.inl e
      · right; have := B3.out.size; omega)
    have NR4 : Hid (¬ F4 r) := Lib.hid (fun e => by
      rcases sb4 _ e with e | e
      · have := HL.out.lt _ e; have := HRW.out; omega
      · have := C3.out.lt; omega)
    clear FL st s4 k4 sb4 hi u0 u1 u9 u10 u11 u12
    rcases Dk.says_cases s.dk with hz | hz
    · rw [if_neg (by rw [hz]; decide)] at E0
      rw [hz]
      have FLN := Lib.hid (Dk.flush_len s.dk)
      obtain ⟨D1, hD1⟩ : ∃ D1, s.dk.flush = D1 := ⟨_, rfl⟩
      rw [hD1] at S4 FLN E0
      have LOK := Lib.hid (Ct.putL_ok ct')
      have LRT : Hid (ct'.putL.rt = true) := Lib.hid ((Lf.rt_iff (Ct.putL_ok ct')).2 (by rw [Ct.putL_yes RG.out]; exact Ct.leaf_right RG.out))
      obtain ⟨PL, hPL⟩ : ∃ PL, ct'.putL = PL := ⟨_, rfl⟩
      have PE := Lib.hid hPL
      rw [hPL] at LOK LRT E0
      have rw4 : r < w4.heap.size := C4.out.lt
      have SZ4 : Hid (w.heap.size ≤ w4.heap.size) := Lib.hid (K4.out.size)
      have a0 := S4.out.cells.1
      obtain ⟨q0, q1, q2, q3, q4, q5, q6, q7, q8⟩ := C4.out.cells
      have FR4 : Hid (FlR w4 N A0 ct'.files) := Lib.hid (by
        rw [HF'.out]
        intro j hj
        obtain ⟨b2, o2, e1, e2, e3, e4, e5, e6, e7⟩ := HR.out j hj
        have hk : w4.heap[b2]? = w.heap[b2]? := K4.out.block b2 (by omega) (hA0 _ e1)
        exact ⟨b2, o2, e1, e2, by rw [World.cell?_of_block (w := w) (a := ⟨b2, o2 + j * 4, none⟩) hk]; exact e3, by rw [World.cell?_of_block (w := w) (a := ⟨b2, o2 + j * 4 + 1, none⟩) hk]; exact e4, by rw [World.cell?_of_block (w := w) (a := ⟨b2, o2 + j * 4 + 2, none⟩) hk]; exact e5, by rw [World.cell?_of_block (w := w) (a := ⟨b2, o2 + j * 4 + 3, none⟩) hk]; exact e6, e7⟩)
      have PC := Lib.hid (fun v (hb : Below w4.heap.size w4 v) => (put_cat ct' OK'.out N A0 n0 c0 v (by rw [HF'.out]; exact HLEN.out) (by unfold maxLen; omega) (FR4.out.below (hb.mono (by have := SZ4.out; omega))) (by have := hb.size; have := SZ4.out; omega)).mono (fun e w' (q : PutC v ct' e w') => (show e = .returned (.agg (lv PL).toArray) ∧ Below v.heap.size v w' from by rw [← PE.out]; exact q)))
      have PY := Lib.hid (fun v => put_yes PL LOK.out LRT.out v)
      have ISB := Lib.hid (show IsBlk PL.put from ⟨Lf.put_len LOK.out, Lf.put_u8 LOK.out ((Lf.rt_iff LOK.out).1 LRT.out)⟩)
      clear hz hD1 hPL
      go_wp2_with fail
      go_region_held_law (fun w' => w'.cell? ⟨b, 0, none⟩ = some (.pointer (some ⟨d, 0, none⟩)) ∧ w'.cell? ⟨r, 0, none⟩ = some (.int .i64 ct'.gen) ∧ w'.cell? ⟨r, 1, none⟩ = some (.int .i64 ct'.step) ∧ w'.cell? ⟨r, 2, none⟩ = some (.int .i64 ct'.status) ∧ w'.cell? ⟨r, 3, none⟩ = some (.bool ct'.ended) ∧ w'.cell? ⟨r, 4, none⟩ = some (.int .i64 ct'.card.frm) ∧ w'.cell? ⟨r, 5, none⟩ = some (.int .i64 ct'.card.to_) ∧ w'.cell? ⟨r, 6, none⟩ = some (.int .i64 ct'.card.budget) ∧ w'.cell? ⟨r, 7, none⟩ = some (.int .i64 ct'.card.fan) ∧ w'.cell? ⟨r, 8, none⟩ = some (.slice A0 n0 c0)) (first | exact ⟨a0, q0, q1, q2, q3, q4, q5, q6, q7, q8⟩ | exact q)
        (first | (go_at_call 45; refine (disk_write Fd4 d D1 i cn _ _ PL.put w6 S6.out.dk (by rw [FLN.out.1]; exact i1) ISB.out hown.reads (Nat.le_refl _) (fun a ha hq => by injection ha with ha; subst ha; have h1 := (hown.lt).1; have h2 := S4.out.dk.lt gn hq; have h3 := B5.out.size; omega) (by have := FLN.out.2.1; omega) (by have := FLN.out.2.2; omega)).mono ?_; rintro e w7 ⟨rfl, st⟩; obtain ⟨F7, Fd7, s7, k7, sb7⟩ := S6.out.disk st; have S7 := Lib.hid s7; have K7 := Lib.hid k7; have SB7 := Lib.hid sb7; have C7 : Hid (CtAt w7 r ct' A0 n0 c0) := Lib.hid (C6.out.keep k7 NR4.out); have q : w7.cell? ⟨b, 0, none⟩ = some (.pointer (some ⟨d, 0, none⟩)) ∧ w7.cell? ⟨r, 0, none⟩ = some (.int .i64 ct'.gen) ∧ w7.cell? ⟨r, 1, none⟩ = some (.int .i64 ct'.step) ∧ w7.cell? ⟨r, 2, none⟩ = some (.int .i64 ct'.status) ∧ w7.cell? ⟨r, 3, none⟩ = some (.bool ct'.ended) ∧ w7.cell? ⟨r, 4, none⟩ = some (.int .i64 ct'.card.frm) ∧ w7.cell? ⟨r, 5, none⟩ = some (.int .i64 ct'.card.to_) ∧ w7.cell? ⟨r, 6, none⟩ = some (.int .i64 ct'.card.budget) ∧ w7.cell? ⟨r, 7, none⟩ = some (.int .i64 ct'.card.fan) ∧ w7.cell? ⟨r, 8, none⟩ = some (.slice A0 n0 c0) := ⟨S7.out.cells.1, C7.out.cells⟩; clear st s7 k7 sb7) | (go_at_call 48; refine (PY.out w5).mono ?_; rintro e w6 ⟨gn, cn, rfl, hown, b6⟩; have S6 := Lib.hid (S5.out.below b6); have C6 : Hid (CtAt w6 r ct' A0 n0 c0) := Lib.hid (C5.out.below b6); have B6 := Lib.hid (bstep B5.out b6); have q : w6.cell? ⟨b, 0, none⟩ = some (.pointer (some ⟨d, 0, none⟩)) ∧ w6.cell? ⟨r, 0, none⟩ = some (.int .i64 ct'.gen) ∧ w6.cell? ⟨r, 1, none⟩ = some (.int .i64 ct'.step) ∧ w6.cell? ⟨r, 2, none⟩ = some (.int .i64 ct'.status) ∧ w6.cell? ⟨r, 3, none⟩ = some (.bool ct'.ended) ∧ w6.cell? ⟨r, 4, none⟩ = some (.int .i64 ct'.card.frm) ∧ w6.cell? ⟨r, 5, none⟩ = some (.int .i64 ct'.card.to_) ∧ w6.cell? ⟨r, 6, none⟩ = some (.int .i64 ct'.card.budget) ∧ w6.cell? ⟨r, 7, none⟩ = some (.int .i64 ct'.card.fan) ∧ w6.cell? ⟨r, 8, none⟩ = some (.slice A0 n0 c0) := ⟨S6.out.cells.1, C6.out.cells⟩) | (go_at_call 49; refine (PC.out w4.drew (Below.refl _ _).drew).mono ?_; rintro e w5 ⟨rfl, b5⟩; have S5 := Lib.hid ((S4.out.below (Below.refl _ _).drew).below b5); have C5 : Hid (CtAt w5 r ct' A0 n0 c0) := Lib.hid ((C4.out.below (Below.refl _ _).drew).below b5); have B5 := Lib.hid (bstep ((Below.refl w4.heap.size w4).drew) b5); have q : w5.cell? ⟨b, 0, none⟩ = some (.pointer (some ⟨d, 0, none⟩)) ∧ w5.cell? ⟨r, 0, none⟩ = some (.int .i64 ct'.gen) ∧ w5.cell? ⟨r, 1, none⟩ = some (.int .i64 ct'.step) ∧ w5.cell? ⟨r, 2, none⟩ = some (.int .i64 ct'.status) ∧ w5.cell? ⟨r, 3, none⟩ = some (.bool ct'.ended) ∧ w5.cell? ⟨r, 4, none⟩ = some (.int .i64 ct'.card.frm) ∧ w5.cell? ⟨r, 5, none⟩ = some (.int .i64 ct'.card.to_) ∧ w5.cell? ⟨r, 6, none⟩ = some (.int .i64 ct'.card.budget) ∧ w5.cell? ⟨r, 7, none⟩ = some (.int .i64 ct'.card.fan) ∧ w5.cell? ⟨r, 8, none⟩ = some (.slice A0 n0 c0) := ⟨S5.out.cells.1, C5.out.cells⟩))
      have WLN := Lib.hid (Dk.write_len D1 i PL.put)
      obtain ⟨D2, hD2⟩ : ∃ D2, D1.write i PL.put = D2 := ⟨_, rfl⟩
      rw [hD2] at S7 WLN E0
      have KW7 : Hid (Keep F w w7) := Lib.hid ((K4.out.trans (Sub.refl _ _) (Keep.of_below B6.out)).trans SB04.out K7.out)
      have SB07 : Hid (Sub F7 F w) := Lib.hid (fun q hq => by
        rcases SB7.out q hq with e | e
        · exact SB04.out q e
        · right; have := B6.out.size; have := SZ4.out; omega)
      have NR7 : Hid (¬ F7 r) := Lib.hid (fun e => by
        rcases SB7.out _ e with e | e
        · exact NR4.out e
        · have := C6.out.lt; omega)
      clear q a0 q0 q1 q2 q3 q4 q5 q6 q7 q8 hD2 hown PC PY S5 S6 C4 C5 S4 rw4
      obtain ⟨x0, x1, x9, x10, x11, x12⟩ := S7.out.cells
      rcases Dk.says_cases D1 with hz | hz
      · rw [if_neg (by rw [hz]; decide)] at E0
        rw [hz]
        have FL2 := Lib.hid (disk_flush Fd7 d D2 w7 S7.out.dk (by have := FLN.out.2.1; have := WLN.out.2.1; omega))
        have FLN2 := Lib.hid (Dk.flush_len D2)
        clear hz
        go_wp2_with fail
        refine FL2.out.mono ?_
        rintro e w8 ⟨rfl, st⟩
        obtain ⟨F8, Fd8, s8, k8, sb8⟩ := S7.out.disk st
        have C8 : Hid (CtAt w8 r ct' A0 n0 c0) := Lib.hid (C7.out.keep k8 NR7.out)
        have KW8 : Hid (Keep F w w8) := Lib.hid (KW7.out.trans SB07.out k8)
        have SB08 : Hid (Sub F8 F w) := Lib.hid (fun q hq => by
          rcases sb8 q hq with e | e
          · exact SB07.out q e
          · right; have := KW7.out.size; omega)
        have NR8 : Hid (¬ F8 r) := Lib.hid (fun e => by
          rcases sb8 _ e with e | e
          · exact NR7.out e
          · have := C7.out.lt; omega)
        obtain ⟨D3, hD3⟩ : ∃ D3, D2.flush = D3 := ⟨_, rfl⟩
        rw [hD3] at s8 FLN2 E0
        have S8 := Lib.hid s8
        clear FL2 st s8 k8 sb8 hD3 x0 x1 x9 x10 x11 x12
        rcases Dk.says_cases D2 with hz | hz
        · rw [if_neg (by rw [hz]; decide)] at E0
          rw [hz]
          have r8 : w8.cell? ⟨r, 8, none⟩ = some (.slice A0 n0 c0) := Arr.cell C8.out 8
          have FR8 : Hid (FlR w8 N A0 ct'.files) := Lib.hid (by
            rw [HF'.out]
            intro j hj
            obtain ⟨b2, o2, e1, e2, e3, e4, e5, e6, e7⟩ := HR.out j hj
            have hk : w8.heap[b2]? = w.heap[b2]? := KW8.out.block b2 (by omega) (hA0 _ e1)
            exact ⟨b2, o2, e1, e2, by rw [World.cell?_of_block (w := w) (a := ⟨b2, o2 + j * 4, none⟩) hk]; exact e3, by rw [World.cell?_of_block (w := w) (a := ⟨b2, o2 + j * 4 + 1, none⟩) hk]; exact e4, by rw [World.cell?_of_block (w := w) (a := ⟨b2, o2 + j * 4 + 2, none⟩) hk]; exact e5, by rw [World.cell?_of_block (w := w) (a := ⟨b2, o2 + j * 4 + 3, none⟩) hk]; exact e6, e7⟩)
          have CL := Lib.hid (cloneF_any ct'.files N A0 n0 c0 w8 (by rw [HF'.out]; exact HLEN.out) hm FR8.out (by have := KW8.out.size; omega))
          clear hz
          go_wp2_with fail
          refine CL.out.mono ?_
          rintro e w9 ⟨A', c', rfl, ow, b9⟩
          have C9 : Hid (CtAt w9 r ct' A0 n0 c0) := Lib.hid (C8.out.below b9)
          have S9 := Lib.hid (S8.out.below b9)
          have OW := Lib.hid ow
          have RLT := Lib.hid C8.out.lt
          have y8 : w9.cell? ⟨r, 8, none⟩ = some (.slice A0 n0 c0) := Arr.cell C9.out 8
          have z8 : w9.frozen? ⟨r, 8, none⟩ = false := Arr.frozen C9.out 8
          have k9 : Keep (· = r) w9 (w9.setCell ⟨r, 8, none⟩ (.slice A' n0 c')) := Keep.cellF (F := (· = r)) (a := ⟨r, 8, none⟩) (Keep.refl _ w9) rfl _
          have C10 : Hid (CtAt (w9.setCell ⟨r, 8, none⟩ (.slice A' n0 c')) r ct' A' n0 c') := Lib.hid C9.out.files
          have S10 := Lib.hid (S9.out.stay k9.size (fun q hq => k9.block q (S9.out.lt q hq) (fun e => NR8.out (by have e : q = r := e; rw [← e]; exact hq))))
          have O10 : Hid (OwnF (w9.setCell ⟨r, 8, none⟩ (.slice A' n0 c')) 0 A' n0 c' ct'.files) := Lib.hid ((OW.out.other (fun a ha => by have := (OW.out.lt a ha).1; have := RLT.out; omega) _).weak (fun a ha => Nat.zero_le _))
          have NA' : Hid (∀ a, A' = some a → w8.heap.size ≤ a.block ∧ ¬ F8 a.block) := Lib.hid (fun a ha => ⟨(OW.out.lt a ha).1, fun e => by have := S8.out.lt _ e; have := (OW.out.lt a ha).1; omega⟩)
          have KW10 : Hid (Keep F w (w9.setCell ⟨r, 8, none⟩ (.slice A' n0 c'))) := Lib.hid ((KW8.out.trans (Sub.refl _ _) (Keep.of_below b9)).trans (F' := fun q => F q ∨ w.heap.size ≤ q) (fun q hq => hq) ⟨k9.os, k9.tape, k9.output, k9.size, fun q h1 h2 => k9.block q h1 (fun e => h2 (Or.inr (by have e : q = r := e; have := HRW.out; omega)))⟩)
          clear CL ow b9 k9 r8
          go_wp2_with (first | (with_reducible refine load_ct rfl _ rfl r ct' A' n0 c' C10.out rfl ?_) | (with_reducible refine store_cat rfl _ _ rfl S10.out ct' A' n0 c' O10.out (fun a ha => (NA'.out a ha).2) OK'.out rfl rfl ?_))
          intro w11 s11 k11 z11
          have S11 := Lib.hid s11
          have t10 : w11.cell? ⟨b, 10, none⟩ = some (.int .i64 s.slot) := s11.cells.2.2.2.1
          have t11 : w11.cell? ⟨b, 11, none⟩ = some (.int .i64 s.begun) := s11.cells.2.2.2.2.1
          have f10 := s11.frozen 10
          have f11 := s11.frozen 11
          have S12 := Lib.hid (s11.word (s' := { s with dk := D3, cat := ct', slot := (i : Int) }) 10 (.int .i64 (i : Int)) rfl rfl rfl (by show 0 ≤ (i : Int) ∧ (i : Int) ≤ 1; have := HI.out; omega) S8.out.begun rfl)
          have S13 := Lib.hid (S12.out.word (s' := { s with dk := D3, cat := ct', slot := (i : Int), begun := 0 }) 11 (.int .i64 0) rfl rfl rfl S12.out.slot ⟨by show (0 : Int) ≤ 0; decide, by show (0 : Int) ≤ 1000000000; decide⟩ rfl)
          obtain ⟨t, ht⟩ : ∃ t : St, ({ s with dk := D3, cat := ct', slot := (i : Int), begun := 0 } : St) = t := ⟨_, rfl⟩
          have E : Hid (s.commit ct = (t.scanned.1, { t with free := if t.scanned.1 = 0 then t.scanned.2 else t.free })) := Lib.hid (by rw [E0.out, ← ht])
          have KB : Hid (Keep (· = b) w11 ((w11.setCell ⟨b, 10, none⟩ (.int .i64 (i : Int))).setCell ⟨b, 11, none⟩ (.int .i64 0))) := Lib.hid (Keep.cellF (F := (· = b)) (a := ⟨b, 11, none⟩) (Keep.cellF (F := (· = b)) (a := ⟨b, 10, none⟩) (Keep.refl _ w11) rfl _) rfl _)
          have K11 := Lib.hid k11
          have SC := Lib.hid (scan_any _ b t _ (show StAt _ _ b t from ⟨_, _, _, _, _, _, _, by rw [← ht]; exact S13.out⟩) (by rw [← ht]; show D3.wt.length ≤ _; have := FLN2.out.2.1; have := WLN.out.2.1; have := FLN.out.2.1; omega) (by rw [← ht]; show ct'.files.length ≤ _; rw [HF'.out, HLEN.out]; exact hm) (by rw [← ht]; intro j hj; have := (file_of_right RG.out j hj).1.b; show (flAt ct'.files j).blocks ≤ _; omega))
          clear s11 k11 z11 ht
          go_wp2_with fail
          refine SC.out.mono ?_
          rintro e w14 ⟨rfl, stp⟩
          have STP := Lib.hid stp
          clear SC stp
          go_wp2
          go_ret
          rw [E.out]
          refine ⟨rfl, STP.out.on (F := F) (w := w) ?_ ?_⟩
          · exact (KW10.out.trans (F' := (· = b)) (fun q hq => Or.inl (by have hq : q = b := hq; rw [hq]; exact HL.out.fb)) K11.out).trans (F' := (· = b)) (fun q hq => Or.inl (by have hq : q = b := hq; rw [hq]; exact HL.out.fb)) KB.out
          · intro q hq
            rcases hq with hq | ⟨a, ha, rfl⟩
            · exact SB08.out q hq
            · right; have := (NA'.out a ha).1; have := KW8.out.size; omega
        · have E : Hid (s.commit ct = (7, { s with dk := D3 })) := Lib.hid (by rw [E0.out, if_pos (by rw [hz]; decide), hz])
          rw [hz]
          clear hz E0
          go_wp2
          go_ret
          rw [E.out]
          exact ⟨rfl, F8, ⟨_, _, _, _, _, _, _, S8.out⟩, KW8.out, SB08.out⟩
      · have E : Hid (s.commit ct = (7, { s with dk := D2 })) := Lib.hid (by rw [E0.out, if_pos (by rw [hz]; decide), hz])
        rw [hz]
        clear hz E0
        go_wp2
        go_ret
        rw [E.out]
        exact ⟨rfl, F7, ⟨_, _, _, _, _, _, _, S7.out⟩, KW7.out, SB07.out⟩
    · have E : Hid (s.commit ct = (7, { s with dk := s.dk.flush })) := Lib.hid (by rw [E0.out, if_pos (by rw [hz]; decide), hz])
      rw [hz]
      clear hz E0
      go_wp2
      go_ret
      rw [E.out]
      exact ⟨rfl, F4, ⟨_, _, _, _, _, _, _, S4.out⟩, K4.out, SB04.out⟩
end Go.Proofs.Ytilmicekpclmbaa
namespace Go.Proofs.Ytilmicekpclmbaa
set_option linter.unusedVariables false
set_option linter.unusedSimpArgs false
set_option maxRecDepth 100000
open Go.RowKit

theorem Ct.Right.ok {c : Ct} (h : c.Right) : c.Ok := by
  obtain ⟨⟨a0, a1⟩, ⟨b0, b1⟩, ⟨c0, c1⟩, ⟨d0, d1⟩⟩ := h.card
  have := h.g; have := h.s; have := h.t
  exact ⟨⟨by omega, by omega⟩, ⟨by omega, by omega⟩, ⟨by omega, by omega⟩, ⟨⟨by omega, by omega⟩, ⟨by omega, by omega⟩, ⟨by omega, by omega⟩, ⟨by omega, by omega⟩⟩⟩
theorem slC_right {s : Dk} (ok : s.Ok) {i : Int} : (slC s i).Right := by
  unfold slC
  split
  · unfold gotC
    cases h : getCt (ldL s i) with
    | none => exact Ct.zero_right
    | some c => exact (getCt_some (ldL_ok ok i) h).1
  · exact Ct.zero_right
def St.new (dk : Dk) (d : Nat) : St := ⟨dk, Ct.zero, 0, 0, [], d⟩
open Classical in
noncomputable def opR (k : Nat) (p : St × Bool) : St × Bool := if slK p.1.dk k = true ∧ (p.2 = false ∨ p.1.cat.gen < (slC p.1.dk k).gen) then ({ p.1 with cat := slC p.1.dk k, slot := k }, true) else p
noncomputable def opL (dk : Dk) (d : Nat) : Nat → St × Bool
  | 0 => (St.new dk d, false)
  | k + 1 => opR k (opL dk d k)
theorem opL_fix (dk : Dk) (d : Nat) : ∀ k, (opL dk d k).1.dk = dk ∧ (opL dk d k).1.free = [] ∧ (opL dk d k).1.begun = 0 ∧ (opL dk d k).1.loc = d
  | 0 => ⟨rfl, rfl, rfl, rfl⟩
  | k + 1 => by
    have h := opL_fix dk d k
    have e : opL dk d (k + 1) = opR k (opL dk d k) := rfl
    rw [e]
    unfold opR
    split
    · exact h
    · exact h
theorem opL_right {dk : Dk} (ok : dk.Ok) (d : Nat) : ∀ k, (opL dk d k).1.cat.Right
  | 0 => Ct.zero_right
  | k + 1 => by
    have h := opL_right ok d k
    have e : opL dk d (k + 1) = opR k (opL dk d k) := rfl
    rw [e]
    unfold opR
    split
    · show (slC (opL dk d k).1.dk k).Right
      rw [(opL_fix dk d k).1]
      exact slC_right ok
    · exact h
/-- What Open answers, and the store that it makes. -/
noncomputable def openF (dk : Dk) (d : Nat) : Int × St :=
  if dk.off = true then (7, St.new dk d)
  else if (opL dk d 2).2 = false then (6, St.new dk d)
  else ((opL dk d 2).1.scanned.1, { (opL dk d 2).1 with free := if (opL dk d 2).1.scanned.1 = 0 then (opL dk d 2).1.scanned.2 else (opL dk d 2).1.free })
theorem Try.zero_st : (Try.prog.info? 75).map (fun i => (i.zero, i.size)) = some (some (.agg (.pointer none :: (stv 0 (St.new (Dk.new 1) 0) none 0 0 none 0).tail).toArray), 13) := by kernel_rfl
theorem Try.places_st : (match Try.prog.underlying 75 with | some (.struct fs) => fs.toList.mapM (fun f => (Try.prog.info? f.type).map fun i => (f.offset, i.size)) | _ => none) = some [(0, 1), (1, 9), (10, 1), (11, 1), (12, 1)] := by kernel_rfl
theorem built_st1 (d : Nat) (dk : Dk) : Try.prog.built 75 [(0, .pointer (some ⟨d, 0, none⟩))] = some (stv d (St.new dk d) none 0 0 none 0).toArray := by
  have h1 := Try.zero_st
  have h2 := Try.places_st
  unfold Program.built
  cases hi : Try.prog.info? 75 with
  | none => rw [hi] at h1; cases h1
  | some it =>
    rw [hi] at h1
    simp at h1
    cases hu : Try.prog.underlying 75 with
    | none => rw [hu] at h2; cases h2
    | some q =>
      rw [hu] at h2
      cases q <;> try (simp at h2; done)
      rename_i fs
      simp only at h2
      simp only [h1.1, h2]
      simp [Instr.fill, Value.cells, stv, St.new]
section
variable {ops : Array Oper} {rs : List Oper} {o : Oper} {a : Act} {w : World} {Q : Exit → Act → World → Prop}
theorem build_st1 (hgd : o.guard = none) (x0 : Operand) (ho : o.op = .build 75 #[(0, x0)]) (d : Nat) (dk : Dk) (h0 : a.eval x0 = .pointer (some ⟨d, 0, none⟩))
    (h : wpList Try.prog ops Q rs (a.put o.dst (.agg (stv d (St.new dk d) none 0 0 none 0).toArray)) w) : wpList Try.prog ops Q (o :: rs) a w :=
  wpList_plain hgd fun K hK => by
    unfold Oper.wp execOp
    have e : (#[(0, x0)] : Array (Nat × Operand)).map (fun x => (x.1, a.eval x.2)) = #[(0, .pointer (some ⟨d, 0, none⟩))] := by simp [h0]
    simp only [ho, e, run_build w 75 #[(0, .pointer (some ⟨d, 0, none⟩))] _ (built_st1 d dk), Sem.run_bind, Sem.run_pure, Result.andThen_ok]
    exact hK _ _ h
theorem box_st (hgd : o.guard = none) (x : Operand) (ho : o.op = .box 75 x) (d : Nat) (s : St) (A : Option Addr) (n c : Nat) (G : Option Addr) (k : Nat) (hx : a.eval x = .agg (stv d s A n c G k).toArray)
    (h : ∀ w1, Arr w1 w.heap.size 75 (stv d s A n c G k) → Below w.heap.size w w1 → w1.heap.size = w.heap.size + 1 → wpList Try.prog ops Q rs (a.put o.dst (.pointer (some ⟨w.heap.size, 0, none⟩))) w1) : wpList Try.prog ops Q (o :: rs) a w :=
  wpList_plain hgd fun K hK => by
    unfold Oper.wp execOp
    simp only [ho, hx, Instr.box, newVar, newRow, newObj, Value.cells, Sem.run_bind, Sem.run_pure, Result.andThen_ok]
    exact hK _ _ (h _ (Arr.new w _ _) ((Below.refl _ _).alloc (Nat.le_refl _) _) (by simp))
end
theorem StLay.fresh {w : World} {Fd : Nat → Prop} {d b : Nat} {dk : Dk} (h : DiskAt w Fd d dk) (hb : Arr w b 75 (stv d (St.new dk d) none 0 0 none 0)) (hn : ¬ Fd b) : StLay w (fun q => Fd q ∨ q = b) b (St.new dk d) Fd d none 0 0 none 0 where
  st := hb
  dk := h
  fl := OwnF.nil _ _
  fr := RowN.nil _ _ _ _
  ok := Ct.zero_right.ok
  slot := ⟨by show (0 : Int) ≤ 0; decide, by show (0 : Int) ≤ 1; decide⟩
  begun := ⟨by show (0 : Int) ≤ 0; decide, by show (0 : Int) ≤ 1000000000; decide⟩
  fb := Or.inr rfl
  fA := fun a ha => by cases ha
  fG := fun a ha => by cases ha
  fd := fun q hq => Or.inl hq
  nb := hn
  nA := fun a ha => by cases ha
  nG := fun a ha => by cases ha
  lt := fun q hq => by
    rcases hq with hq | rfl
    · exact h.lt q hq
    · exact hb.lt
  lc := rfl
/-- What is known at the head of Open's loop. -/
def OpI (w : World) (Fd : Nat → Prop) (d b : Nat) (dk : Dk) (k : Nat) (wr : World) : Prop :=
  ∃ (F1 Fd1 : Nat → Prop) (A : Option Addr) (n c : Nat), StLay wr F1 b (opL dk d k).1 Fd1 d A n c none 0 ∧ Keep Fd w wr ∧ Sub F1 Fd w
theorem opR_yes {k : Nat} {p : St × Bool} (h : slK p.1.dk k = true ∧ (p.2 = false ∨ p.1.cat.gen < (slC p.1.dk k).gen)) : opR k p = ({ p.1 with cat := slC p.1.dk k, slot := k }, true) := by unfold opR; rw [if_pos h]
theorem opR_no {k : Nat} {p : St × Bool} (h : ¬ (slK p.1.dk k = true ∧ (p.2 = false ∨ p.1.cat.gen < (slC p.1.dk k).gen))) : opR k p = p := by unfold opR; rw [if_neg h]
/-- What Open does: a store, or a status; the disk is as it was. -/
def OpenE (Fd : Nat → Prop) (d : Nat) (dk : Dk) (w : World) (e : Ending) (w' : World) : Prop :=
  ((openF dk d).1 = 0 ∧ ∃ b F', e = .returned (.tuple #[.pointer (some ⟨b, 0, none⟩), .int .i64 0]) ∧ StAt w' F' b (openF dk d).2 ∧ Keep Fd w w' ∧ Sub F' Fd w) ∨ ((openF dk d).1 ≠ 0 ∧ e = .returned (.tuple #[.pointer none, .int .i64 (openF dk d).1]) ∧ Step Fd d dk w w')
theorem StAt.disk {w : World} {F : Nat → Prop} {b : Nat} {s : St} (h : StAt w F b s) : ∃ Fd, DiskAt w Fd s.loc s.dk ∧ (∀ q, Fd q → F q) := by
  obtain ⟨Fd, d, A, n, c, G, k, h⟩ := h
  exact ⟨Fd, by rw [h.lc]; exact h.dk, h.fd⟩
set_option maxHeartbeats 16000000 in
theorem open_any (Fd : Nat → Prop) (d : Nat) (dk : Dk) (w : World) (h : DiskAt w Fd d dk) (hw : dk.wt.length ≤ 1000000) :
    Calls Try.prog 10 #[.pointer (some ⟨d, 0, none⟩)] w (OpenE Fd d dk w) := by
  have H := Lib.hid h
  have OF := Lib.hid (off_eq Fd d dk w h)
  have DOK := Lib.hid h.ok
  clear h
  go_enter Try.func10, Try.ntmps10
  go_wp2_with fail
  refine OF.out.mono ?_
  rintro e w0 ⟨rfl, rfl⟩
  clear OF
  cases ho : dk.off
  · have HOFF := Lib.hid ho
    clear ho
    go_wp2_with (first | (with_reducible refine build_st1 rfl _ rfl d dk rfl ?_) | (with_reducible refine box_st rfl _ rfl d (St.new dk d) none 0 0 none 0 rfl ?_))
    intro w1 l1 b1 s1
    obtain ⟨b, hb⟩ : ∃ b, b = w.heap.size := ⟨_, rfl⟩
    rw [← hb] at l1 ⊢
    have HB := Lib.hid hb
    have P0 : Hid (OpI w Fd d b dk 0 w1) := Lib.hid ⟨_, Fd, none, 0, 0, StLay.fresh (H.out.stay (fun q hq => b1.block q (H.out.lt q hq))) l1 (fun e => by have := H.out.lt _ e; omega), Keep.of_below b1, fun q hq => by
      rcases hq with hq | rfl
      · exact Or.inl hq
      · exact Or.inr (by omega)⟩
    clear hb l1 b1 s1
    go_wp2
    go_loopw [5, 15] (fun fv iv wr => ∃ k : Nat, k ≤ 2 ∧ iv = .int .i64 k ∧ fv = .bool (opL dk d k).2 ∧ OpI w Fd d b dk k wr) (fun _ iv _ => 2 - (intOf iv).toNat)
    case atStart => exact ⟨0, by decide, rfl, rfl, P0.out⟩
    case round =>
      obtain ⟨k, hk, rfl, rfl, hp⟩ := hrel
      obtain ⟨F1, Fd1, A, n, c, hl, kp, sb⟩ := hp
      have HL := Lib.hid hl; have KP := Lib.hid kp; have SB := Lib.hid sb
      obtain ⟨e1, e2, e3, e4⟩ := opL_fix dk d k
      have E1 := Lib.hid e1; have E2 := Lib.hid e2; have E4 := Lib.hid e4
      clear hl kp sb P0 e1 e2 e3 e4
      by_cases hk2 : k = 2
      · subst hk2
        have OE : Hid (openF dk d = if (opL dk d 2).2 = false then (6, St.new dk d) else ((opL dk d 2).1.scanned.1, { (opL dk d 2).1 with free := if (opL dk d 2).1.scanned.1 = 0 then (opL dk d 2).1.scanned.2 else (opL dk d 2).1.free })) := Lib.hid (by
          unfold openF; rw [if_neg (by rw [HOFF.out]; decide)])
        cases hf : (opL dk d 2).2
        · have E : Hid (openF dk d = (6, St.new dk d)) := Lib.hid (by rw [OE.out, if_pos hf])
          clear OE hf
          go_wp2
          refine bodyPost_ret (v := .tuple #[.pointer none, .int .i64 6]) (by simp [results, Try.results10, go_sem]) rfl ?_
          exact Or.inr ⟨by rw [E.out]; show (6 : Int) ≠ 0; decide, by rw [E.out], Fd1, by have := HL.out.dk; rw [E1.out] at this; exact this, KP.out, fun q hq => SB.out q (HL.out.fd q hq)⟩
        · obtain ⟨t, ht⟩ : ∃ t, (opL dk d 2).1 = t := ⟨_, rfl⟩
          have CR : Hid t.cat.Right := Lib.hid (by rw [← ht]; exact opL_right DOK.out d 2)
          rw [ht] at HL E1 E2 E4 OE
          have E : Hid (openF dk d = (t.scanned.1, { t with free := if t.scanned.1 = 0 then t.scanned.2 else t.free })) := Lib.hid (by rw [OE.out, if_neg (by rw [hf]; decide)])
          have SC := Lib.hid (scan_any F1 b t wr ⟨_, _, _, _, _, _, _, HL.out⟩ (by rw [E1.out]; exact hw) (by have := CR.out.m; omega) (fun i hi => by have := (CR.out.f i hi).b; omega))
          clear OE hf ht
          go_wp2_with fail
          refine SC.out.mono ?_
          rintro e w2 ⟨rfl, stp⟩
          have STP := Lib.hid stp
          clear SC stp
          by_cases hz : t.scanned.1 = 0
          · have E' : Hid ((openF dk d).1 = 0) := Lib.hid (by rw [E.out]; exact hz)
            rw [hz]
            clear hz
            go_wp2
            refine bodyPost_ret (v := .tuple #[.pointer (some ⟨b, 0, none⟩), .int .i64 0]) (by simp [results, Try.results10, go_sem]) rfl ?_
            obtain ⟨F2, h2, k2, s2⟩ := STP.out.on (F := Fd) (w := w) KP.out SB.out
            exact Or.inl ⟨E'.out, b, F2, rfl, by rw [E.out]; exact h2, k2, s2⟩
          · have E' : Hid ((openF dk d).1 ≠ 0) := Lib.hid (by rw [E.out]; exact hz)
            have E'' : Hid ((openF dk d).1 = t.scanned.1) := Lib.hid (by rw [E.out])
            obtain ⟨q, hq⟩ : ∃ q, t.scanned.1 = q := ⟨_, rfl⟩
            rw [hq] at hz E'' ⊢
            have dz : (q == 0) = false := by rw [beq_eq_false_iff_ne]; exact hz
            clear hz hq
            go_wp2
            refine bodyPost_ret (v := .tuple #[.pointer none, .int .i64 q]) (by simp [results, Try.results10, go_sem]) rfl ?_
            obtain ⟨F2, h2, k2, s2⟩ := STP.out.on (F := Fd) (w := w) KP.out SB.out
            obtain ⟨Fd2, h3, h4⟩ := h2.disk
            exact Or.inr ⟨E'.out, by rw [E''.out], Fd2, by rw [← E4.out, ← E1.out]; exact h3, k2, fun j hj => s2 j (h4 j hj)⟩
      · have hk1 : k < 2 := by omega
        have RS := Lib.hid (rslot_any Fd1 d (opL dk d k).1.dk (k : Int) wr HL.out.dk (by omega) (by omega) (by rw [E1.out]; exact hw))
        go_wp2_with fail
        refine RS.out.mono ?_
        rintro e w2 ⟨A', n', c', rfl, ow, b2⟩
        have HL2 := Lib.hid (HL.out.below b2)
        have KP2 := Lib.hid (KP.out.trans (Sub.refl _ _) (Keep.of_below b2))
        have OW := Lib.hid ow
        have ST := Lib.hid (show opL dk d (k + 1) = opR k (opL dk d k) from rfl)
        obtain ⟨C, hC⟩ : ∃ C, slC (opL dk d k).1.dk k = C := ⟨_, rfl⟩
        obtain ⟨K, hK⟩ : ∃ K, slK (opL dk d k).1.dk k = K := ⟨_, rfl⟩
        have CR : Hid C.Right := Lib.hid (by rw [← hC, E1.out]; exact slC_right DOK.out)
        obtain ⟨p, hp⟩ : ∃ p, opL dk d k = p := ⟨_, rfl⟩
        have RY : Hid (K = true ∧ (p.2 = false ∨ p.1.cat.gen < C.gen) → opR k p = ({ p.1 with cat := C, slot := k }, true)) := Lib.hid (fun q => by
          have := opR_yes (k := k) (p := p); rw [← hp, hC, hK, hp] at this; exact this q)
        have RN : Hid (¬ (K = true ∧ (p.2 = false ∨ p.1.cat.gen < C.gen)) → opR k p = p) := Lib.hid (fun q => by
          have := opR_no (k := k) (p := p); rw [← hp, hC, hK, hp] at this; exact this q)
        rw [hC] at OW
        rw [hC, hK]
        rw [hp] at HL HL2 E1 E2 E4 ST ⊢
        clear RS ow hC hK hp
        obtain ⟨s, fd⟩ := p
        dsimp only at *
        go_wp2_with (with_reducible refine alloc_ct rfl rfl ?_)
        intro w3 l3 b3 z3
        obtain ⟨q, hq⟩ : ∃ q, q = w2.heap.size := ⟨_, rfl⟩
        rw [← hq] at l3 ⊢
        have Q3 : Hid (CtAt w3 q Ct.zero none 0 0) := Lib.hid l3
        have HQ := Lib.hid hq
        have B3 := Lib.hid b3
        clear hq b3 z3 l3
        go_wp2_with (with_reducible refine store_ct rfl _ _ rfl q Ct.zero C none A' 0 n' 0 c' Q3.out rfl rfl ?_)
        intro w4 l4 k4 z4
        have Q4 : Hid (CtAt w4 q C A' n' c') := Lib.hid l4
        have B4 : Hid (Below w2.heap.size w2 w4) := Lib.hid (k4.below (fun j hj => by have hj : j = q := hj; have := HQ.out; omega) B3.out B3.out.size)
        have HL4 := Lib.hid (HL2.out.below B4.out)
        have KP4 := Lib.hid (KP2.out.trans (Sub.refl _ _) (Keep.of_below B4.out))
        have OW4 := Lib.hid (OW.out.below B4.out)
        have NF1 : Hid (∀ a, A' = some a → ¬ F1 a.block) := Lib.hid (fun a ha e => by have := (OW.out.lt a ha).1; have := HL.out.lt _ e; omega)
        clear l4 k4 z4 B3 Q3
        have g1 : w4.cell? ⟨q, 0, none⟩ = some (.int .i64 C.gen) := Arr.cell Q4.out 0
        have g2 := HL4.out.cells.2.1
        have NO : Hid (K = false ∨ (fd = true ∧ ¬ s.cat.gen < C.gen) → opL dk d (k + 1) = (s, fd)) := Lib.hid (fun q => by
          rw [ST.out]
          exact RN.out (fun r => by
            rcases q with q | q
            · rw [q] at r; cases r.1
            · rcases r.2 with r | r
              · rw [q.1] at r; cases r
              · exact q.2 r))
        have YES : Hid (K = true → (fd = false ∨ s.cat.gen < C.gen) → opL dk d (k + 1) = ({ s with cat := C, slot := k }, true)) := Lib.hid (fun q1 q2 => by
          rw [ST.out]
          exact RY.out ⟨q1, q2⟩)
        have OKK : Hid (∀ fd', opL dk d (k + 1) = (s, fd') → ∀ nq, OpI w Fd d b dk (k + 1) (w4.drewN nq)) := Lib.hid (fun fd' e nq => by
          refine ⟨F1, Fd1, A, n, c, ?_, KP4.out.drewN nq, SB.out⟩
          rw [e]
          exact HL4.out.below (below_drewN (Below.refl _ _) nq))
        clear ST RY RN
        cases K
        · have N' := Lib.hid (NO.out (Or.inl rfl))
          clear NO YES
          go_wp2
          go_quiet (fail)
          go_wp2
          go_roundw
          case rel => exact ⟨k + 1, by omega, by go_num, by rw [N'.out], OKK.out _ N'.out nq⟩
          case measure => show 2 - (intOf (.int .i64 ((k : Int) + 1))).toNat < 2 - (intOf (.int .i64 (k : Int))).toNat; simp [intOf]; omega
        · cases fd
          · have Y' := Lib.hid (YES.out rfl (Or.inl rfl))
            clear NO OKK
            go_wp2
            go_quiet (fail)
            have Q5 : Hid (CtAt (w4.drewN nq) q C A' n' c') := Lib.hid (Q4.out.below (below_drewN (Below.refl _ _) nq))
            have HL5 := Lib.hid (HL4.out.below (below_drewN (Below.refl _ _) nq))
            have OW5 := Lib.hid ((OW4.out.below (below_drewN (Below.refl _ _) nq)).weak (fun a ha => Nat.zero_le _))
            have KP5 := Lib.hid (KP4.out.drewN nq)
            obtain ⟨W, hW⟩ : ∃ W, w4.drewN nq = W := ⟨_, rfl⟩
            rw [hW] at Q5 HL5 OW5 KP5 ⊢
            clear hW g1 g2
            go_wp2_with (first | (with_reducible refine load_ct rfl _ rfl q C A' n' c' Q5.out rfl ?_) | (with_reducible refine store_cat rfl _ _ rfl HL5.out C A' n' c' OW5.out NF1.out CR.out.ok rfl rfl ?_))
            intro w6 s6 k6 z6
            have S6 := Lib.hid s6; have K6 := Lib.hid k6
            have t10 : w6.cell? ⟨b, 10, none⟩ = some (.int .i64 s.slot) := s6.cells.2.2.2.1
            have f10 := s6.frozen 10
            have S7 := Lib.hid (s6.word (s' := { s with cat := C, slot := (k : Int) }) 10 (.int .i64 (k : Int)) rfl rfl rfl (by show 0 ≤ (k : Int) ∧ (k : Int) ≤ 1; omega) HL5.out.begun rfl)
            clear s6 k6 z6
            go_wp2
            go_roundw
            case rel => exact ⟨k + 1, by omega, by go_num, by rw [Y'.out], _, Fd1, A', n', c', by rw [Y'.out]; exact S7.out, KP5.out.trans SB.out (Keep.cellF (a := ⟨b, 10, none⟩) (⟨K6.out.os, K6.out.tape, K6.out.output, K6.out.size, fun j h1 h2 => K6.out.block j h1 (fun e => h2 (by have e : j = b := e; rw [e]; exact HL5.out.fb))⟩ : Keep F1 W w6) HL5.out.fb _), fun j hj => by
              rcases hj with hj | ⟨a, ha, rfl⟩
              · exact SB.out j hj
              · right; have := (OW.out.lt a ha).1; have := KP.out.size; omega⟩
            case measure => show 2 - (intOf (.int .i64 ((k : Int) + 1))).toNat < 2 - (intOf (.int .i64 (k : Int))).toNat; simp [intOf]; omega
          · by_cases hc : s.cat.gen < C.gen
            · have Y' := Lib.hid (YES.out rfl (Or.inr hc))
              clear NO OKK
              go_wp2
              go_quiet (fail)
              have Q5 : Hid (CtAt (w4.drewN nq) q C A' n' c') := Lib.hid (Q4.out.below (below_drewN (Below.refl _ _) nq))
              have HL5 := Lib.hid (HL4.out.below (below_drewN (Below.refl _ _) nq))
              have OW5 := Lib.hid ((OW4.out.below (below_drewN (Below.refl _ _) nq)).weak (fun a ha => Nat.zero_le _))
              have KP5 := Lib.hid (KP4.out.drewN nq)
              obtain ⟨W, hW⟩ : ∃ W, w4.drewN nq = W := ⟨_, rfl⟩
              rw [hW] at Q5 HL5 OW5 KP5 ⊢
              clear hW g1 g2
              go_wp2_with (first | (with_reducible refine load_ct rfl _ rfl q C A' n' c' Q5.out rfl ?_) | (with_reducible refine store_cat rfl _ _ rfl HL5.out C A' n' c' OW5.out NF1.out CR.out.ok rfl rfl ?_))
              intro w6 s6 k6 z6
              have S6 := Lib.hid s6; have K6 := Lib.hid k6
              have t10 : w6.cell? ⟨b, 10, none⟩ = some (.int .i64 s.slot) := s6.cells.2.2.2.1
              have f10 := s6.frozen 10
              have S7 := Lib.hid (s6.word (s' := { s with cat := C, slot := (k : Int) }) 10 (.int .i64 (k : Int)) rfl rfl rfl (by show 0 ≤ (k : Int) ∧ (k : Int) ≤ 1; omega) HL5.out.begun rfl)
              clear s6 k6 z6
              go_wp2
              go_roundw
              case rel => exact ⟨k + 1, by omega, by go_num, by rw [Y'.out], _, Fd1, A', n', c', by rw [Y'.out]; exact S7.out, KP5.out.trans SB.out (Keep.cellF (a := ⟨b, 10, none⟩) (⟨K6.out.os, K6.out.tape, K6.out.output, K6.out.size, fun j h1 h2 => K6.out.block j h1 (fun e => h2 (by have e : j = b := e; rw [e]; exact HL5.out.fb))⟩ : Keep F1 W w6) HL5.out.fb _), fun j hj => by
                rcases hj with hj | ⟨a, ha, rfl⟩
                · exact SB.out j hj
                · right; have := (OW.out.lt a ha).1; have := KP.out.size; omega⟩
              case measure => show 2 - (intOf (.int .i64 ((k : Int) + 1))).toNat < 2 - (intOf (.int .i64 (k : Int))).toNat; simp [intOf]; omega
            · have N' := Lib.hid (NO.out (Or.inr ⟨rfl, hc⟩))
              clear NO YES
              go_wp2
              go_quiet (fail)
              go_wp2
              go_roundw
              case rel => exact ⟨k + 1, by omega, by go_num, by rw [N'.out], OKK.out _ N'.out nq⟩
              case measure => show 2 - (intOf (.int .i64 ((k : Int) + 1))).toNat < 2 - (intOf (.int .i64 (k : Int))).toNat; simp [intOf]; omega
  · have E : Hid (openF dk d = (7, St.new dk d)) := Lib.hid (by unfold openF; rw [if_pos ho])
    clear ho
    go_wp2
    refine bodyPost_ret (v := .tuple #[.pointer none, .int .i64 7]) (by simp [results, Try.results10, go_sem]) rfl ?_
    exact Or.inr ⟨by rw [E.out]; show (7 : Int) ≠ 0; decide, by rw [E.out], Step.same H.out⟩
end Go.Proofs.Ytilmicekpclmbaa
namespace Go.Proofs.Ytilmicekpclmbaa
set_option linter.unusedVariables false
set_option linter.unusedSimpArgs false
set_option maxRecDepth 100000
open Go.RowKit

def wipeB : List Int := zeros 128
theorem wipeB_blk : IsBlk wipeB := ⟨zeros_length _, fun k _ => by unfold wipeB; rw [zeros_at]; exact ⟨by decide, by decide⟩⟩
/-- What wipe answers, and makes of the disk. -/
def wipeF (dk : Dk) : Int × Dk :=
  if dk.says = 0 then
    if (dk.write 0 wipeB).says = 0 then (((dk.write 0 wipeB).write 1 wipeB).says, ((dk.write 0 wipeB).write 1 wipeB).flush)
    else ((dk.write 0 wipeB).says, (dk.write 0 wipeB).write 1 wipeB)
  else (dk.says, dk.write 0 wipeB)
/-- The disk behind k writes of wipe. -/
def wipeK (dk : Dk) : Nat → Dk
  | 0 => dk
  | k + 1 => (wipeK dk k).write k wipeB
def WipI (Fd : Nat → Prop) (d g c : Nat) (dk : Dk) (w w1 : World) (k : Nat) (wr : World) : Prop :=
  Own wr w.heap.size g c wipeB ∧ (∃ Fd1, DiskAt wr Fd1 d (wipeK dk k) ∧ Keep Fd w wr ∧ Sub Fd1 Fd w ∧ ¬ Fd1 g) ∧ (∀ j, j < k → (wipeK dk j).says = 0)
theorem wipeK_len (dk : Dk) : ∀ k, (wipeK dk k).blk.length = dk.blk.length ∧ (wipeK dk k).wt.length ≤ dk.wt.length + k ∧ (wipeK dk k).wrote ≤ dk.wrote + k
  | 0 => ⟨rfl, by show dk.wt.length ≤ _; omega, by show dk.wrote ≤ _; omega⟩
  | k + 1 => by
    obtain ⟨a, b, c⟩ := wipeK_len dk k
    obtain ⟨a', b', c'⟩ := Dk.write_len (wipeK dk k) k wipeB
    exact ⟨a'.trans a, by show ((wipeK dk k).write k wipeB).wt.length ≤ _; omega, by show ((wipeK dk k).write k wipeB).wrote ≤ _; omega⟩
set_option maxHeartbeats 16000000 in
theorem wipe_any (Fd : Nat → Prop) (d : Nat) (dk : Dk) (w : World) (h : DiskAt w Fd d dk) (h2 : 2 ≤ dk.blk.length) (hw : dk.wt.length ≤ 1000) (hv : dk.wrote ≤ 1000000) :
    Calls Try.prog 28 #[.pointer (some ⟨d, 0, none⟩)] w fun e w' => e = .returned (.int .i64 (wipeF dk).1) ∧ Step Fd d (wipeF dk).2 w w' := by
  have H := Lib.hid h
  clear h
  go_enter Try.func28, Try.ntmps28
  go_wp2_with (with_reducible refine make_own _ rfl _ _ rfl w.heap.size 128 rfl rfl ?c1 ?c2 ?_)
  case c1 => decide
  case c2 => exact Nat.le_refl _
  intro w1 o1 b1
  obtain ⟨g, hg⟩ : ∃ g, g = w.heap.size := ⟨_, rfl⟩
  rw [← hg]
  have O1 : Hid (Own w1 w.heap.size g 128 wipeB) := Lib.hid (by have o1 : Own w1 w.heap.size w.heap.size 128 (zeros 128) := o1; rw [← hg] at o1 ⊢; exact o1)
  have B1 := Lib.hid b1
  have NG : Hid (¬ Fd g) := Lib.hid (fun e => by have := H.out.lt _ e; omega)
  have S1 := Lib.hid (H.out.stay (fun q hq => b1.block q (H.out.lt q hq)))
  have HG := Lib.hid hg
  clear o1 b1 hg
  go_wp2
  go_loopw [7] (fun iv wr => ∃ k : Nat, k ≤ 2 ∧ iv = .int .i64 k ∧ WipI Fd d g 128 dk w w1 k wr) (fun iv _ => 2 - (intOf iv).toNat)
  case atStart => exact ⟨0, by decide, rfl, O1.out, ⟨Fd, S1.out, Keep.of_below B1.out, Sub.refl _ _, NG.out⟩, fun j hj => absurd hj (by omega)⟩
  case round =>
    obtain ⟨k, hk, rfl, hp⟩ := hrel
    obtain ⟨ho, hs, hz⟩ := hp
    have HO := Lib.hid ho; have HZ := Lib.hid hz
    obtain ⟨Fd1, hd, kp, sb, ng⟩ := hs
    have NG1 := Lib.hid ng
    have HD := Lib.hid hd; have KP := Lib.hid kp; have SB := Lib.hid sb
    have LN := Lib.hid (wipeK_len dk k)
    clear ho hd kp sb hz ng O1 B1 S1
    by_cases hk2 : k = 2
    · subst hk2
      have E : Hid (wipeF dk = ((wipeK dk 2).says, (wipeK dk 2).flush)) := Lib.hid (by
        have h0 : dk.says = 0 := HZ.out 0 (by decide)
        have h1 : (dk.write 0 wipeB).says = 0 := HZ.out 1 (by decide)
        unfold wipeF
        rw [if_pos h0, if_pos h1]
        rfl)
      have FL := Lib.hid (disk_flush Fd1 d (wipeK dk 2) wr HD.out (by have := LN.out.2.1; omega))
      go_wp2_with fail
      refine FL.out.mono ?_
      rintro e w2 ⟨rfl, st⟩
      have ST := Lib.hid st
      clear FL st
      go_wp2
      go_ret
      rw [E.out]
      obtain ⟨Fd2, h2, k2, s2⟩ := ST.out
      exact ⟨rfl, Fd2, h2, KP.out.trans SB.out k2, SB.out.trans s2 KP.out.size⟩
    · have hk1 : k < 2 := by omega
      have hg : g < wr.heap.size := HO.out.lt.2
      have WR := Lib.hid (disk_write Fd1 d (wipeK dk k) k 128 wr.heap.size (some ⟨g, 0, none⟩) wipeB wr HD.out (by rw [LN.out.1]; omega) wipeB_blk HO.out.reads (Nat.le_refl _) (fun a ha => by injection ha with ha; subst ha; exact NG1.out) (by have := LN.out.2.1; omega) (by have := LN.out.2.2; omega))
      go_wp2_with fail
      refine WR.out.mono ?_
      rintro e w2 ⟨rfl, st⟩
      obtain ⟨Fd2, h2, k2, s2⟩ := st
      have D2 := Lib.hid h2; have K2 := Lib.hid k2; have S2 := Lib.hid s2
      clear WR h2 k2 s2
      rcases Dk.says_cases (wipeK dk k) with hz | hz
      · have HZ' := Lib.hid hz
        rw [hz]
        clear hz
        go_wp2
        go_roundw
        case rel =>
          refine ⟨k + 1, by omega, by go_num, K2.out.own HO.out NG1.out, ⟨Fd2, D2.out, KP.out.trans SB.out K2.out, SB.out.trans S2.out KP.out.size, fun e => ?_⟩, fun j hj => ?_⟩
          · rcases S2.out _ e with q | q
            · exact NG1.out q
            · omega
          · rcases Nat.lt_or_ge j k with e | e
            · exact HZ.out j e
            · have : j = k := by omega
              rw [this]; exact HZ'.out
        case measure => show 2 - (intOf (.int .i64 ((k : Int) + 1))).toNat < 2 - (intOf (.int .i64 (k : Int))).toNat; simp [intOf]; omega
      · have E : Hid (wipeF dk = (7, (wipeK dk (k + 1)))) := Lib.hid (by
          have h01 : k = 0 ∨ k = 1 := by omega
          unfold wipeF
          rcases h01 with rfl | rfl
          · have hz : dk.says = 7 := hz
            rw [if_neg (by rw [hz]; decide), hz]; rfl
          · have hz : (dk.write 0 wipeB).says = 7 := hz
            have h0 : dk.says = 0 := HZ.out 0 (by decide)
            rw [if_pos h0, if_neg (by rw [hz]; decide), hz]; rfl)
        rw [hz]
        clear hz
        go_wp2
        go_ret
        rw [E.out]
        exact ⟨rfl, Fd2, D2.out, KP.out.trans SB.out K2.out, SB.out.trans S2.out KP.out.size⟩
end Go.Proofs.Ytilmicekpclmbaa
namespace Go.Proofs.Ytilmicekpclmbaa
set_option linter.unusedVariables false
set_option linter.unusedSimpArgs false
set_option maxRecDepth 100000
open Go.RowKit

/-- What a map holds, by its keys, in the order in which they came. -/
def lookL (l : List (Int × Value)) (n : Int) : Option Value := (l.find? (fun p => p.1 == n)).map (·.2)
def putL (l : List (Int × Value)) (n : Int) (v : Value) : List (Int × Value) := if (lookL l n).isSome then l.map (fun p => if p.1 = n then (n, v) else p) else l ++ [(n, v)]
def MapB (w : World) (b : Nat) (l : List (Int × Value)) : Prop := ∃ es clock, w.heap[b]? = some (.map es clock) ∧ es.toList.map (fun e => (e.key, e.val)) = l.map (fun p => (Value.int .i64 p.1, p.2))
theorem MapB.lt {w : World} {b : Nat} {l : List (Int × Value)} (h : MapB w b l) : b < w.heap.size := by
  obtain ⟨es, c, h, _⟩ := h
  exact (Array.getElem?_eq_some_iff.1 h).1
theorem MapB.same {w w' : World} {b : Nat} {l : List (Int × Value)} (h : MapB w b l) (e : w'.heap[b]? = w.heap[b]?) : MapB w' b l := by
  obtain ⟨es, c, h, k⟩ := h
  exact ⟨es, c, e.trans h, k⟩
theorem MapB.below {w w' : World} {b : Nat} {l : List (Int × Value)} (h : MapB w b l) (hb : Below w.heap.size w w') : MapB w' b l := h.same (hb.block b h.lt)
theorem MapB.made (w : World) : MapB (w.alloc (.map #[] 0)) w.heap.size [] := ⟨#[], 0, (MapKept.heap_alloc w _).1, rfl⟩
theorem findNow_int (q : IntKind) (n : Int) : ∀ (es : List MapEntry) (l : List (Int × Value)) (i : Nat), es.map (fun e => (e.key, e.val)) = l.map (fun p => (Value.int .i64 p.1, p.2)) →
    (lookL l n = none ∧ Instr.findNow (.int q) (.int .i64 n) es i = some none) ∨ ∃ j v, lookL l n = some v ∧ Instr.findNow (.int q) (.int .i64 n) es i = some (some (i + j, v)) ∧ j < l.length ∧ (∀ k, k < j → (l.getD k (0, undef)).1 ≠ n) ∧ (l.getD j (0, undef)).1 = n
  | [], [], i, _ => Or.inl ⟨rfl, rfl⟩
  | [], p :: l, i, h => by simp at h
  | e :: es, [], i, h => by simp at h
  | e :: es, p :: l, i, h => by
    simp only [List.map_cons, List.cons.injEq] at h
    obtain ⟨h1, h2⟩ := h
    injection h1 with h1 h1'
    have hs : Instr.sameNow (.int q) (.int .i64 n) e.key = some (n == p.1) := by rw [h1]; simp [Instr.sameNow]
    by_cases hn : n = p.1
    · right
      refine ⟨0, p.2, ?_, ?_, by simp, fun k hk => absurd hk (by omega), by simp [hn]⟩
      · simp [lookL, hn]
      · show (match Instr.sameNow (.int q) (.int .i64 n) e.key with | some true => some (some (i, e.val)) | some false => _ | none => none) = _
        rw [hs, h1']
        simp [hn]
    · have hl : lookL (p :: l) n = lookL l n := by
        have : (p.1 == n) = false := by rw [beq_eq_false_iff_ne]; exact fun e => hn e.symm
        simp [lookL, List.find?_cons, this]
      have hf : Instr.findNow (.int q) (.int .i64 n) (e :: es) i = Instr.findNow (.int q) (.int .i64 n) es (i + 1) := by
        show (match Instr.sameNow (.int q) (.int .i64 n) e.key with | some true => some (some (i, e.val)) | some false => Instr.findNow (.int q) (.int .i64 n) es (i + 1) | none => none) = _
        rw [hs]
        have : (n == p.1) = false := by rw [beq_eq_false_iff_ne]; exact hn
        rw [this]
      rw [hl, hf]
      rcases findNow_int q n es l (i + 1) h2 with ⟨a, b⟩ | ⟨j, v, a, b, c, d, f⟩
      · exact Or.inl ⟨a, b⟩
      · refine Or.inr ⟨j + 1, v, a, by rw [b]; congr 3; omega, by simp; omega, fun k hk => ?_, by simpa using f⟩
        cases k with
        | zero => simpa using fun e => hn e.symm
        | succ k => simpa using d k (by omega)
theorem Try.slice_zero (w : World) : (zeroValue 30).run Try.prog w = .ok (.slice none 0 0) w := (zero_of_info (P := Try.prog) (t := 30) (v := .slice none 0 0) (n := 1) (by kernel_rfl)).1 w
theorem run_lookB {w : World} {b : Nat} {l : List (Int × Value)} (h : MapB w b l) (n : Int) : (Instr.lookup 32 (.map (some b)) (.int .i64 n) true).run Try.prog w = .ok (.tuple #[(lookL l n).getD (.slice none 0 0), .bool (lookL l n).isSome]) w := by
  obtain ⟨es, clock, hb, hk⟩ := h
  have ht : Try.prog.underlying 32 = some (.map 3 30) := Try.underlying32
  have hi : Try.prog.underlying 3 = some (.int .i64) := Try.underlying3
  have ck : ∀ em, (Instr.checkKey em 10000 3 (.int .i64 n)).run Try.prog w = .ok () w := fun em => MapKept.run_checkKey hi (show MapKept.IsKey (.int .i64) (.int .i64 n) from rfl) em 9999
  rcases findNow_int .i64 n es.toList l 0 hk with ⟨a, f⟩ | ⟨j, v, a, f, -, -, -⟩
  · simp [Instr.lookup, run_underlying ht, MapKept.run_getObj_map hb, ck, MapKept.run_findKey hi f, Try.slice_zero, Result.andThen, a]
  · simp [Instr.lookup, run_underlying ht, MapKept.run_getObj_map hb, ck, MapKept.run_findKey hi f, Result.andThen, a]
theorem run_lookN {w : World} (n : Int) : (Instr.lookup 32 (.map none) (.int .i64 n) true).run Try.prog w = .ok (.tuple #[.slice none 0 0, .bool false]) w := by
  have ht : Try.prog.underlying 32 = some (.map 3 30) := Try.underlying32
  have hi : Try.prog.underlying 3 = some (.int .i64) := Try.underlying3
  have ck : ∀ em, (Instr.checkKey em 10000 3 (.int .i64 n)).run Try.prog w = .ok () w := fun em => MapKept.run_checkKey hi (show MapKept.IsKey (.int .i64) (.int .i64 n) from rfl) em 9999
  have f : Instr.findNow (.int .i64) (.int .i64 n) ([] : List MapEntry) 0 = some none := rfl
  simp [Instr.lookup, run_underlying ht, ck, MapKept.run_findKey hi f, Try.slice_zero, Result.andThen]
theorem key_at {es : List MapEntry} {l : List (Int × Value)} (h : es.map (fun e => (e.key, e.val)) = l.map (fun p => (Value.int .i64 p.1, p.2))) {j : Nat} (hj : j < l.length) : ∃ e, es[j]? = some e ∧ e.key = .int .i64 (l.getD j (0, undef)).1 ∧ e.val = (l.getD j (0, undef)).2 := by
  have hl : es.length = l.length := by have := congrArg List.length h; simpa using this
  have h2 := congrArg (fun q => q[j]?) h
  simp only [List.getElem?_map, List.getElem?_eq_getElem hj, List.getElem?_eq_getElem (show j < es.length by omega), Option.map_some] at h2
  injection h2 with h2
  injection h2 with h2 h3
  rw [List.getD_eq_getElem?_getD, List.getElem?_eq_getElem hj]
  exact ⟨es[j], List.getElem?_eq_getElem (by omega), h2, h3⟩
/-- Some keys of a map's list are one: what is put at the first of them only, where they differ. -/
def Uniq (l : List (Int × Value)) : Prop := ∀ i j, i < l.length → j < l.length → (l.getD i (0, undef)).1 = (l.getD j (0, undef)).1 → i = j
theorem run_putB {w : World} {b : Nat} {l : List (Int × Value)} (h : MapB w b l) (hu : Uniq l) (n : Int) (v : Value) :
    ∃ w', (Instr.mapUpdate 32 (.map (some b)) (.int .i64 n) v).run Try.prog w = .ok () w' ∧ MapB w' b (putL l n v) ∧ Keep (· = b) w w' ∧ w'.heap.size = w.heap.size := by
  obtain ⟨es, clock, hb, hk⟩ := h
  have hlt : b < w.heap.size := (Array.getElem?_eq_some_iff.1 hb).1
  have ht : Try.prog.underlying 32 = some (.map 3 30) := Try.underlying32
  have hi : Try.prog.underlying 3 = some (.int .i64) := Try.underlying3
  have ck : ∀ em, (Instr.checkKey em 10000 3 (.int .i64 n)).run Try.prog w = .ok () w := fun em => MapKept.run_checkKey hi (show MapKept.IsKey (.int .i64) (.int .i64 n) from rfl) em 9999
  have KK : ∀ o, Keep (· = b) w { w with heap := w.heap.setIfInBounds b o } ∧ ({ w with heap := w.heap.setIfInBounds b o } : World).heap.size = w.heap.size := fun o =>
    ⟨⟨rfl, rfl, rfl, by simp, fun q hq hne => (MapKept.heap_set (o' := o) hb).2 q hne⟩, by simp⟩
  rcases findNow_int .i64 n es.toList l 0 hk with ⟨a, f⟩ | ⟨j, v0, a, f, hj, hd, he⟩
  · refine ⟨_, by simp [Instr.mapUpdate, run_underlying ht, MapKept.run_getObj_map hb, ck, MapKept.run_findKey hi f, MapKept.run_setObj_map _ hb, Result.andThen], ⟨es.push { key := .int .i64 n, val := v, born := clock }, clock + 1, (MapKept.heap_set hb).1, ?_⟩, (KK _).1, (KK _).2⟩
    unfold putL
    rw [a]
    simp [hk]
  · obtain ⟨e, h1, h2, h3⟩ := key_at hk hj
    have he2 : es[j]? = some e := by simpa using h1
    rw [he] at h2
    refine ⟨_, by simp [Instr.mapUpdate, run_underlying ht, MapKept.run_getObj_map hb, ck, MapKept.run_findKey hi f, he2, h2, MapKept.run_keyThatStays (show MapKept.IsKey (.int .i64) (.int .i64 n) from rfl), MapKept.run_setObj_map _ hb, Result.andThen], ⟨es.modify j (fun e => { e with key := .int .i64 n, val := v }), clock, (MapKept.heap_set hb).1, ?_⟩, (KK _).1, (KK _).2⟩
    unfold putL
    rw [a]
    simp only [Option.isSome_some, if_true, Array.toList_modify, List.map_map]
    apply List.ext_getElem?
    intro i
    rcases Nat.lt_or_ge i l.length with hi' | hi'
    · obtain ⟨ei, g1, g2, g3⟩ := key_at hk hi'
      have gl : l[i]? = some (l.getD i (0, undef)) := by rw [List.getD_eq_getElem?_getD, List.getElem?_eq_getElem hi']; rfl
      rw [List.getElem?_map, List.getElem?_modify, List.getElem?_map, g1, gl]
      by_cases hij : j = i
      · subst hij
        have he' : (l[j]?.getD (0, undef)).1 = n := by rw [← List.getD_eq_getElem?_getD]; exact he
        simp [he']
      · have : (l.getD i (0, undef)).1 ≠ n := fun e => hij (hu j i hj hi' (by rw [he, e]))
        show some _ = some _
        simp only [hij, if_false, Function.comp, if_neg this, g2, g3]
    · have hl : es.toList.length = l.length := by have := congrArg List.length hk; simpa using this
      rw [List.getElem?_eq_none (by simp; simp at hl; omega), List.getElem?_eq_none (by simpa using hi')]
end Go.Proofs.Ytilmicekpclmbaa
namespace Go.Proofs.Ytilmicekpclmbaa
set_option linter.unusedVariables false
set_option linter.unusedSimpArgs false
set_option maxRecDepth 100000
open Go.RowKit

theorem growF_held {s : St} {r : Wr} (inv : WrInv s r) (ho : r.held.Ok) (hn : s.free.length ≤ 512) : (growF s r).2.2.held.Ok := by
  have b0 := inv.b0; have b1 := inv.b1
  obtain ⟨f0, f1⟩ := inv.f
  unfold growF
  split
  · exact ho
  · rename_i i hf
    have li := (lowF_is hf).1
    split
    · exact leaf3_ok ⟨by decide, by decide⟩ ⟨by omega, by omega⟩ ⟨by decide, by decide⟩
    · split
      · exact leaf3_ok ⟨by decide, by decide⟩ ⟨by omega, by omega⟩ ⟨by omega, by omega⟩
      · exact ⟨ho.k, ho.f, ho.p, ⟨by show _ ≤ (i : Int); omega, by show (i : Int) ≤ _; omega⟩, ho.s, ho.l, ho.u⟩
theorem growF_same (s : St) (r : Wr) : (growF s r).2.1.cat = s.cat ∧ (growF s r).2.1.slot = s.slot ∧ (growF s r).2.1.begun = s.begun ∧ (growF s r).2.1.loc = s.loc ∧ (growF s r).2.1.free.length = s.free.length ∧ (growF s r).2.2.file.name = r.file.name ∧ (growF s r).2.2.file.file = r.file.file := by
  unfold growF
  split
  · exact ⟨rfl, rfl, rfl, rfl, rfl, rfl, rfl⟩
  · split
    · exact ⟨rfl, rfl, rfl, rfl, by simp, rfl, rfl⟩
    · split
      · exact ⟨rfl, rfl, rfl, rfl, by simp, rfl, rfl⟩
      · exact ⟨rfl, rfl, rfl, rfl, by simp, rfl, rfl⟩
/-- What Put leaves: the rest of the store, the file's names, and what holds between two calls. -/
theorem putF_keeps : ∀ (k : Nat) (s : St) (r : Wr) (bs : List Int), WrInv s r → r.held.Ok → s.free.length ≤ 512 → (∀ j, j < bs.length → U8 (bs.getD j 0)) →
    WrInv (putF k s r bs).1 (putF k s r bs).2 ∧ (putF k s r bs).2.held.Ok ∧ (putF k s r bs).1.cat = s.cat ∧ (putF k s r bs).1.slot = s.slot ∧ (putF k s r bs).1.begun = s.begun ∧ (putF k s r bs).1.loc = s.loc ∧ (putF k s r bs).1.free.length = s.free.length ∧ (putF k s r bs).2.file.name = r.file.name ∧ (putF k s r bs).2.file.file = r.file.file ∧ (putF k s r bs).1.dk.blk.length = s.dk.blk.length ∧ (putF k s r bs).1.dk.wt.length ≤ s.dk.wt.length + k ∧ (putF k s r bs).1.dk.wrote ≤ s.dk.wrote + k
  | 0, s, r, bs, inv, ho, hn, hu => ⟨inv, ho, rfl, rfl, rfl, rfl, rfl, rfl, rfl, rfl, Nat.le_refl _, by show s.dk.wrote ≤ _; omega⟩
  | k + 1, s, r, bs, inv, ho, hn, hu => by
    by_cases h0 : bs = [] ∨ r.status ≠ 0
    · rw [putF_end h0]
      exact ⟨inv, ho, rfl, rfl, rfl, rfl, rfl, rfl, rfl, rfl, by show s.dk.wt.length ≤ _; omega, by show s.dk.wrote ≤ _; omega⟩
    · by_cases hg : needG r
      · rw [putF_grow h0 hg]
        obtain ⟨a1, a2, a3, a4, a5, a6, a7⟩ := growF_same s r
        obtain ⟨l1, l2, l3⟩ := growF_len s r
        obtain ⟨c1, c2, c3, c4, c5, c6, c7, c8, c9, c10, c11, c12⟩ := putF_keeps k (growF s r).2.1 { (growF s r).2.2 with status := (growF s r).1 } bs ((growF_inv inv).status _) (growF_held inv ho hn) (by rw [a5]; exact hn) hu
        exact ⟨c1, c2, c3.trans a1, c4.trans a2, c5.trans a3, c6.trans a4, c7.trans a5, c8.trans a6, c9.trans a7, c10.trans l1, by omega, by omega⟩
      · rw [putF_fill h0 hg]
        have hb : 0 < r.file.blocks := by
          have := inv.b0
          have : r.file.blocks ≠ 0 := fun e => hg (Or.inl e)
          omega
        obtain ⟨-, -, -, -, ⟨s0, s1⟩, -⟩ := inv.h hb
        have hl : r.held.size + (bs.take (116 - r.held.size.toNat)).length ≤ 116 := by rw [List.length_take]; omega
        have hu' : ∀ j, j < (bs.take (116 - r.held.size.toNat)).length → U8 ((bs.take (116 - r.held.size.toNat)).getD j 0) := fun j hj => by
          rw [getD_take _ _ _ hj]; rw [List.length_take] at hj; exact hu j (by omega)
        obtain ⟨c1, c2, c3, c4, c5, c6, c7, c8, c9, c10, c11, c12⟩ := putF_keeps k s { r with held := fillL r.held (bs.take (116 - r.held.size.toNat)) } (bs.drop (116 - r.held.size.toNat)) (fill_inv inv ho hl) (fill_ok ho ⟨s0, s1⟩ hu' hl) hn (fun j hj => by
          rw [List.length_drop] at hj
          rw [List.getD_eq_getElem?_getD, List.getElem?_drop, ← List.getD_eq_getElem?_getD]
          exact hu _ (by omega))
        exact ⟨c1, c2, c3, c4, c5, c6, c7, c8, c9, c10, by omega, by omega⟩
theorem closeF_same (s : St) (r : Wr) : (closeF s r).2.1.cat = s.cat ∧ (closeF s r).2.1.slot = s.slot ∧ (closeF s r).2.1.begun = s.begun ∧ (closeF s r).2.1.loc = s.loc ∧ (closeF s r).2.1.free = s.free ∧ (closeF s r).2.1.dk.blk.length = s.dk.blk.length ∧ (closeF s r).2.1.dk.wt.length ≤ s.dk.wt.length + 1 ∧ (closeF s r).2.1.dk.wrote ≤ s.dk.wrote + 1 := by
  unfold closeF
  split
  · split
    · exact ⟨rfl, rfl, rfl, rfl, rfl, Dk.write_len _ _ _⟩
    · exact ⟨rfl, rfl, rfl, rfl, rfl, rfl, by show s.dk.wt.length ≤ _; omega, by show s.dk.wrote ≤ _; omega⟩
  · exact ⟨rfl, rfl, rfl, rfl, rfl, rfl, by show s.dk.wt.length ≤ _; omega, by show s.dk.wrote ≤ _; omega⟩
end Go.Proofs.Ytilmicekpclmbaa
namespace Go.Proofs.Ytilmicekpclmbaa
set_option linter.unusedVariables false
set_option linter.unusedSimpArgs false
set_option maxRecDepth 100000
open Go.RowKit

/-- A file is made: Create, Put, Close. -/
noncomputable def makeF (s : St) (nm : Int) (bs : List Int) : (Fl × Int) × St :=
  ((closeF (putF (2 * bs.length + 1) { s with begun := s.begun + 1 } (s.newWr nm) bs).1 (putF (2 * bs.length + 1) { s with begun := s.begun + 1 } (s.newWr nm) bs).2).1, (closeF (putF (2 * bs.length + 1) { s with begun := s.begun + 1 } (s.newWr nm) bs).1 (putF (2 * bs.length + 1) { s with begun := s.begun + 1 } (s.newWr nm) bs).2).2.1)
/-- What saveAll answers, and makes of the store. -/
noncomputable def saveF (fs : Int → Option (List Int)) : Nat → Int → St → List Fl → Int × St × List Fl
  | 0, _, s, sv => (0, s, sv)
  | k + 1, nm, s, sv =>
    match fs nm with
    | none => saveF fs k (nm + 1) s sv
    | some bs => if (makeF s nm bs).1.2 = 0 then saveF fs k (nm + 1) (makeF s nm bs).2 (sv ++ [(makeF s nm bs).1.1]) else ((makeF s nm bs).1.2, (makeF s nm bs).2, [])
theorem saveF_none {fs : Int → Option (List Int)} {k : Nat} {nm : Int} {s : St} {sv : List Fl} (h : fs nm = none) : saveF fs (k + 1) nm s sv = saveF fs k (nm + 1) s sv := by
  show (match fs nm with | none => _ | some bs => _) = _; rw [h]
theorem saveF_ok {fs : Int → Option (List Int)} {k : Nat} {nm : Int} {s : St} {sv : List Fl} {bs : List Int} (h : fs nm = some bs) (h0 : (makeF s nm bs).1.2 = 0) : saveF fs (k + 1) nm s sv = saveF fs k (nm + 1) (makeF s nm bs).2 (sv ++ [(makeF s nm bs).1.1]) := by
  show (match fs nm with | none => _ | some bs => _) = _; rw [h]; exact if_pos h0
theorem saveF_bad {fs : Int → Option (List Int)} {k : Nat} {nm : Int} {s : St} {sv : List Fl} {bs : List Int} (h : fs nm = some bs) (h0 : (makeF s nm bs).1.2 ≠ 0) : saveF fs (k + 1) nm s sv = ((makeF s nm bs).1.2, (makeF s nm bs).2, []) := by
  show (match fs nm with | none => _ | some bs => _) = _; rw [h]; exact if_neg h0
/-- A map whose elements read as bytes, in blocks below N that are none of F's. -/
structure MapR (w : World) (N : Nat) (F : Nat → Prop) (M : Value) (l : List (Int × Value)) (fs : Int → Option (List Int)) : Prop where
  m : (M = .map none ∧ l = []) ∨ ∃ mb, M = .map (some mb) ∧ MapB w mb l ∧ mb < N ∧ ¬ F mb
  n : ∀ n, lookL l n = none → fs n = none
  e : ∀ n v, lookL l n = some v → ∃ bs A c, fs n = some bs ∧ v = .slice A bs.length c ∧ bs.length ≤ c ∧ c ≤ maxLen ∧ bs.length ≤ 1000 ∧ RdB w N A bs ∧ ∀ a, A = some a → ¬ F a.block ∧ a.block < N
theorem MapR.look {w : World} {N : Nat} {F : Nat → Prop} {M : Value} {l : List (Int × Value)} {fs : Int → Option (List Int)} (h : MapR w N F M l fs) (n : Int) : (Instr.lookup 32 M (.int .i64 n) true).run Try.prog w = .ok (.tuple #[(lookL l n).getD (.slice none 0 0), .bool (lookL l n).isSome]) w := by
  rcases h.m with ⟨rfl, rfl⟩ | ⟨mb, rfl, hb, -, -⟩
  · exact run_lookN n
  · exact run_lookB hb n
theorem MapR.keep {w w' : World} {N : Nat} {F : Nat → Prop} {M : Value} {l : List (Int × Value)} {fs : Int → Option (List Int)} (h : MapR w N F M l fs) (hN : N ≤ w.heap.size) (k : Keep F w w') {F' : Nat → Prop} (s : Sub F' F w) : MapR w' N F' M l fs := by
  have nf : ∀ q, q < N → ¬ F q → ¬ F' q := fun q h1 h2 h3 => by rcases s q h3 with e | e; exact h2 e; omega
  refine ⟨?_, h.n, fun n v hv => ?_⟩
  · rcases h.m with e | ⟨mb, h1, h2, h3, h4⟩
    · exact Or.inl e
    · exact Or.inr ⟨mb, h1, h2.same (k.block mb (by omega) h4), h3, nf _ h3 h4⟩
  · obtain ⟨bs, A, c, h1, h2, h3, h4, h5, h6, h7⟩ := h.e n v hv
    refine ⟨bs, A, c, h1, h2, h3, h4, h5, fun j hj => ?_, fun a ha => ⟨nf _ (h7 a ha).2 (h7 a ha).1, (h7 a ha).2⟩⟩
    obtain ⟨b, o, g1, g2, g3, g4⟩ := h6 j hj
    exact ⟨b, o, g1, g2, by rw [World.cell?_of_block (w := w) (a := ⟨b, o + j, none⟩) (k.block b (by omega) (h7 _ g1).1)]; exact g3, g4⟩
theorem MapR.low {w w' : World} {N : Nat} {F : Nat → Prop} {M : Value} {l : List (Int × Value)} {fs : Int → Option (List Int)} (h : MapR w N F M l fs) (k : ∀ q, q < N → ¬ F q → w'.heap[q]? = w.heap[q]?) : MapR w' N F M l fs := by
  refine ⟨?_, h.n, fun n v hv => ?_⟩
  · rcases h.m with e | ⟨mb, h1, h2, h3, h4⟩
    · exact Or.inl e
    · exact Or.inr ⟨mb, h1, h2.same (k mb h3 h4), h3, h4⟩
  · obtain ⟨bs, A, c, h1, h2, h3, h4, h5, h6, h7⟩ := h.e n v hv
    refine ⟨bs, A, c, h1, h2, h3, h4, h5, fun j hj => ?_, h7⟩
    obtain ⟨b, o, g1, g2, g3, g4⟩ := h6 j hj
    exact ⟨b, o, g1, g2, by rw [World.cell?_of_block (w := w) (a := ⟨b, o + j, none⟩) (k b g2 (h7 _ g1).1)]; exact g3, g4⟩
theorem cntT_len : ∀ l : List Bool, cntT l ≤ (l.length : Int)
  | [] => by decide
  | x :: r => by
    have := cntT_len r
    have e : cntT (x :: r) ≤ 1 + cntT r := by cases x <;> simp [cntT] <;> omega
    simp only [List.length_cons]; omega
/-- What is known of a store that makes files. -/
structure StInv (s : St) : Prop where
  fr : s.free.length = s.dk.blk.length
  b2 : s.dk.blk.length ≤ 512
  g : 0 ≤ s.cat.gen ∧ s.cat.gen ≤ 1000
  bg : 0 ≤ s.begun ∧ s.begun ≤ 1000000
theorem newWr_inv {s : St} (i : StInv s) (nm : Int) : WrInv { s with begun := s.begun + 1 } (s.newWr nm) ∧ (s.newWr nm).held.Ok := by
  have h1 := i.fr; have h2 := i.b2
  obtain ⟨g0, g1⟩ := i.g
  obtain ⟨b0, b1⟩ := i.bg
  have h3 := cntT_len s.free
  unfold St.newWr
  split
  · exact ⟨⟨by show (0 : Int) ≤ 0; decide, by show (0 : Int) + cntT s.free ≤ 512; omega, ⟨by show (0 : Int) ≤ 0; decide, by show (0 : Int) ≤ 65535; decide⟩, i.fr, fun h => absurd h (by show ¬ (0 : Int) < 0; decide)⟩, Lf.zero_ok⟩
  · exact ⟨⟨by show (0 : Int) ≤ 0; decide, by show (0 : Int) + cntT s.free ≤ 512; omega, ⟨by show 0 ≤ 64 * (s.cat.gen + 1) + (s.begun + 1); omega, by show 64 * (s.cat.gen + 1) + (s.begun + 1) ≤ 65535; omega⟩, i.fr, fun h => absurd h (by show ¬ (0 : Int) < 0; decide)⟩, Lf.zero_ok⟩
theorem makeF_keeps {s : St} (i : StInv s) (nm : Int) {bs : List Int} (hu : ∀ j, j < bs.length → U8 (bs.getD j 0)) : (makeF s nm bs).2.cat = s.cat ∧ (makeF s nm bs).2.slot = s.slot ∧ (makeF s nm bs).2.begun = s.begun + 1 ∧ (makeF s nm bs).2.loc = s.loc ∧ (makeF s nm bs).2.free.length = s.free.length ∧ (makeF s nm bs).2.dk.blk.length = s.dk.blk.length ∧ (makeF s nm bs).2.dk.wt.length ≤ s.dk.wt.length + 2 * bs.length + 2 ∧ (makeF s nm bs).2.dk.wrote ≤ s.dk.wrote + 2 * bs.length + 2 := by
  obtain ⟨w1, w2⟩ := newWr_inv i nm
  obtain ⟨-, -, c3, c4, c5, c6, c7, -, -, c10, c11, c12⟩ := putF_keeps (2 * bs.length + 1) { s with begun := s.begun + 1 } (s.newWr nm) bs w1 w2 (by show s.free.length ≤ 512; have := i.fr; have := i.b2; omega) hu
  obtain ⟨d1, d2, d3, d4, d5, d6, d7, d8⟩ := closeF_same (putF (2 * bs.length + 1) { s with begun := s.begun + 1 } (s.newWr nm) bs).1 (putF (2 * bs.length + 1) { s with begun := s.begun + 1 } (s.newWr nm) bs).2
  have c11 : (putF (2 * bs.length + 1) { s with begun := s.begun + 1 } (s.newWr nm) bs).1.dk.wt.length ≤ s.dk.wt.length + (2 * bs.length + 1) := c11
  have c12 : (putF (2 * bs.length + 1) { s with begun := s.begun + 1 } (s.newWr nm) bs).1.dk.wrote ≤ s.dk.wrote + (2 * bs.length + 1) := c12
  exact ⟨d1.trans c3, d2.trans c4, d3.trans c5, d4.trans c6, (congrArg List.length d5).trans c7, d6.trans c10, by unfold makeF; simp only; omega, by unfold makeF; simp only; omega⟩
/-- What is known at the head of saveAll's loop, k names done. -/
structure SvI (F : Nat → Prop) (b : Nat) (s : St) (fs : Int → Option (List Int)) (M : Value) (l : List (Int × Value)) (w wr : World) (k : Nat) (F1 : Nat → Prop) (s1 : St) (sv : List Fl) (A : Option Addr) (n c : Nat) : Prop where
  st : StAt wr F1 b s1
  i : StInv s1
  bg : s1.begun ≤ s.begun + k
  wt : s1.dk.wt.length ≤ s.dk.wt.length + 2002 * k
  wo : s1.dk.wrote ≤ s.dk.wrote + 2002 * k
  kp : Keep F w wr
  sb : Sub F1 F w
  mp : MapR wr w.heap.size F1 M l fs
  fl : OwnF wr w.heap.size A n c sv
  nA : ∀ a, A = some a → ¬ F1 a.block
  ln : n ≤ k
  eq : saveF fs 255 1 s [] = saveF fs (255 - k) (k + 1) s1 sv
def SaveE (F : Nat → Prop) (b : Nat) (R : Int × St × List Fl) (w : World) (e : Ending) (w' : World) : Prop :=
  ∃ (A : Option Addr) (n c : Nat) (F' : Nat → Prop), e = .returned (.tuple #[.slice A n c, .int .i64 R.1]) ∧ OwnF w' w.heap.size A n c R.2.2 ∧ (∀ a, A = some a → ¬ F' a.block) ∧ StAt w' F' b R.2.1 ∧ Keep F w w' ∧ Sub F' F w
set_option maxHeartbeats 16000000 in
theorem save_any (F b s) (M : Value) (l : List (Int × Value)) (fs : Int → Option (List Int)) (w : World) (h : StAt w F b s) (i : StInv s) (hb : s.begun ≤ 1000) (hw : s.dk.wt.length ≤ 1000) (hv : s.dk.wrote ≤ 1000000) (hm : MapR w w.heap.size F M l fs) :
    Calls Try.prog 30 #[.pointer (some ⟨b, 0, none⟩), M] w (SaveE F b (saveF fs 255 1 s []) w) := by
  have P0 : Hid (SvI F b s fs M l w w 0 F s [] none 0 0) := Lib.hid ⟨h, i, by omega, by omega, by omega, Keep.refl _ _, Sub.refl _ _, hm, OwnF.nil _ _, fun a ha => (by cases ha), Nat.le_refl _, rfl⟩
  obtain ⟨R, hR⟩ : ∃ R, saveF fs 255 1 s [] = R := ⟨_, rfl⟩
  have HR := Lib.hid hR
  rw [hR]
  clear h i hm hR
  go_enter Try.func30, Try.ntmps30
  go_wp2
  go_loopw [6, 7] (fun sv nv wr => ∃ (k : Nat) (F1 : Nat → Prop) (s1 : St) (svl : List Fl) (A : Option Addr) (n c : Nat), k ≤ 255 ∧ nv = .int .i64 ((k : Int) + 1) ∧ sv = .slice A n c ∧ SvI F b s fs M l w wr k F1 s1 svl A n c) (fun _ nv _ => 257 - (intOf nv).toNat)
  case atStart => exact ⟨0, F, s, [], none, 0, 0, by decide, rfl, rfl, P0.out⟩
  case round =>
    obtain ⟨k, F1, s1, svl, A, n, c, hk, rfl, rfl, hp⟩ := hrel
    have HP := Lib.hid hp
    clear hp P0
    by_cases hk2 : k = 255
    · subst hk2
      have E : Hid (R = (0, s1, svl)) := Lib.hid (by rw [← HR.out, HP.out.eq]; rfl)
      go_wp2
      refine bodyPost_ret (v := .tuple #[.slice A n c, .int .i64 0]) (by simp [results, Try.results30, go_sem]) rfl ?_
      rw [E.out]
      exact ⟨A, n, c, F1, rfl, HP.out.fl, HP.out.nA, HP.out.st, HP.out.kp, HP.out.sb⟩
    · have hk1 : k < 255 := by omega
      have lk := HP.out.mp.look ((k : Int) + 1)
      have K1 : 255 - k = (255 - (k + 1)) + 1 := by omega
      cases hl : lookL l ((k : Int) + 1) with
      | none =>
        have E : Hid (saveF fs 255 1 s [] = saveF fs (255 - (k + 1)) (((k + 1 : Nat) : Int) + 1) s1 svl) := Lib.hid (by
          rw [HP.out.eq, K1, saveF_none (HP.out.mp.n _ hl)]; rfl)
        rw [hl] at lk
        simp only [Option.getD_none, Option.isSome_none] at lk
        clear hl K1
        go_wp2
        go_roundw
        case rel => exact ⟨k + 1, F1, s1, svl, A, n, c, by omega, by go_num, rfl, HP.out.st, HP.out.i, by have := HP.out.bg; omega, by have := HP.out.wt; omega, by have := HP.out.wo; omega, HP.out.kp, HP.out.sb, HP.out.mp, HP.out.fl, HP.out.nA, by have := HP.out.ln; omega, E.out⟩
        case measure => show 257 - (intOf (.int .i64 ((k : Int) + 1 + 1))).toNat < 257 - (intOf (.int .i64 ((k : Int) + 1))).toNat; simp [intOf]; omega
      | some v =>
        obtain ⟨bs, A2, c2, hfs, rfl, z1, z2, z3, hrd, hfar⟩ := HP.out.mp.e _ _ hl
        rw [hl] at lk
        simp only [Option.getD_some, Option.isSome_some] at lk
        have HFS := Lib.hid hfs; have HRD := Lib.hid hrd; have HFAR := Lib.hid hfar
        have CR := Lib.hid (create_any F1 b s1 ((k : Int) + 1) wr HP.out.st ⟨by omega, by omega⟩ HP.out.i.g.1 (by have := HP.out.i.g.2; omega) (by have := HP.out.i.bg.2; omega))
        have U8S := Lib.hid hrd.u8s
        have NI := Lib.hid (newWr_inv HP.out.i ((k : Int) + 1))
        have MK := Lib.hid (makeF_keeps HP.out.i ((k : Int) + 1) (bs := bs) hrd.u8s)
        have HPW := Lib.hid HP.out.wt; have HPO := Lib.hid HP.out.wo
        clear hl hfs hrd hfar
        go_wp2_with fail
        refine CR.out.mono ?_
        rintro e w2 ⟨g, hgl, rfl, hwr, hst, kp⟩
        have W2 := Lib.hid hwr; have S2 := Lib.hid hst; have K2 := Lib.hid kp
        have NG : Hid (¬ F1 g) := Lib.hid (fun e => by have := HP.out.st.lt _ e; omega)
        have HGL := Lib.hid hgl
        have PT := Lib.hid (put_any' F1 b { s1 with begun := s1.begun + 1 } g (s1.newWr ((k : Int) + 1)) A2 bs.length c2 w.heap.size bs w2 S2.out W2.out NG.out NI.out.1 rfl z1 z2 (by omega) (fun j hj => by
          obtain ⟨b2, o2, g1, g2, g3, g4⟩ := HRD.out j hj
          exact ⟨b2, o2, g1, g2, by rw [World.cell?_of_block (w := wr) (a := ⟨b2, o2 + j, none⟩) (K2.out.block b2 (by have := HP.out.kp.size; omega) (HFAR.out _ g1).1)]; exact g3, g4⟩) (by have := HP.out.kp.size; have := K2.out.size; omega) (fun a ha => ⟨(HFAR.out a ha).1, by have := (HFAR.out a ha).2; have := HP.out.kp.size; omega, (HFAR.out a ha).2⟩) (by show s1.dk.wt.length + (2 * bs.length + 1) ≤ 1000000; have := HPW.out; omega) (by show s1.dk.wrote + (2 * bs.length + 1) ≤ 1000000000000; have := HPO.out; omega))
        clear CR hgl hwr hst kp
        go_wp2_with fail
        refine PT.out.mono ?_
        rintro e w3 ⟨rfl, F3, hs3, hr3, k3, sb3, hg3⟩
        have PK := Lib.hid (putF_keeps (2 * bs.length + 1) { s1 with begun := s1.begun + 1 } (s1.newWr ((k : Int) + 1)) bs NI.out.1 NI.out.2 (by show s1.free.length ≤ 512; have := HP.out.i.fr; have := HP.out.i.b2; omega) U8S.out)
        have MKE : Hid (makeF s1 ((k : Int) + 1) bs = ((closeF (putF (2 * bs.length + 1) { s1 with begun := s1.begun + 1 } (s1.newWr ((k : Int) + 1)) bs).1 (putF (2 * bs.length + 1) { s1 with begun := s1.begun + 1 } (s1.newWr ((k : Int) + 1)) bs).2).1, (closeF (putF (2 * bs.length + 1) { s1 with begun := s1.begun + 1 } (s1.newWr ((k : Int) + 1)) bs).1 (putF (2 * bs.length + 1) { s1 with begun := s1.begun + 1 } (s1.newWr ((k : Int) + 1)) bs).2).2.1)) := Lib.hid rfl
        obtain ⟨p, hp⟩ : ∃ p, putF (2 * bs.length + 1) { s1 with begun := s1.begun + 1 } (s1.newWr ((k : Int) + 1)) bs = p := ⟨_, rfl⟩
        rw [hp] at hs3 hr3 PK MKE ⊢
        have K3 := Lib.hid k3; have SB3 := Lib.hid sb3; have HG3 := Lib.hid hg3
        have PKW : Hid (p.1.dk.wt.length ≤ s1.dk.wt.length + (2 * bs.length + 1) ∧ p.1.dk.wrote ≤ s1.dk.wrote + (2 * bs.length + 1)) := Lib.hid ⟨PK.out.2.2.2.2.2.2.2.2.2.2.1, PK.out.2.2.2.2.2.2.2.2.2.2.2⟩
        have CC := Lib.hid (wclose_any F3 b p.1 g p.2 w3 hs3 hr3 hg3 PK.out.1 (by have := PKW.out.1; have := HPW.out; omega) (by have := PKW.out.2; have := HPO.out; omega))
        have FOK : Hid (closeF p.1 p.2).1.1.Ok := Lib.hid (by
          have h1 := hr3.2.f
          unfold closeF
          split
          · split
            · dsimp only
              split
              · exact h1
              · exact Fl.zero_ok
            · exact h1
          · exact Fl.zero_ok)
        clear PT hs3 hr3 k3 sb3 hg3 hp
        go_wp2_with fail
        refine CC.out.mono ?_
        rintro e w4 ⟨rfl, F4, hs4, hr4, k4, sb4, hg4⟩
        have S4 := Lib.hid hs4; have K4 := Lib.hid k4; have SB4 := Lib.hid sb4
        obtain ⟨q, hq⟩ : ∃ q, closeF p.1 p.2 = q := ⟨_, rfl⟩
        rw [hq] at S4 MKE FOK ⊢
        clear CC hs4 hr4 k4 sb4 hg4 hq
        obtain ⟨⟨f, st⟩, s4, r4⟩ := q
        dsimp only at *
        go_wp2_with (with_reducible refine alloc_fl rfl rfl ?_)
        intro w5 l5 b5 z5
        obtain ⟨fb, hfb⟩ : ∃ fb, fb = w4.heap.size := ⟨_, rfl⟩
        rw [← hfb] at l5 ⊢
        have L5 : Hid (FlV w5 fb Fl.zero) := Lib.hid l5
        have B5 := Lib.hid b5; have HFB := Lib.hid hfb
        clear l5 b5 z5 hfb
        go_wp2_with (with_reducible refine store_fl rfl _ _ rfl fb Fl.zero f L5.out rfl rfl ?_)
        intro w6 l6 k6 z6
        have L6 : Hid (FlV w6 fb f) := Lib.hid l6
        have B6 : Hid (Below w4.heap.size w4 w6) := Lib.hid (k6.below (fun q hq => by have hq : q = fb := hq; have := HFB.out; omega) B5.out B5.out.size)
        have SB41 : Hid (Sub F4 F1 wr) := Lib.hid (fun q hq => by
          rcases SB4.out q hq with e | e
          · rcases SB3.out q e with e | e
            · exact Or.inl e
            · right; have := K2.out.size; omega
          · right; have := K2.out.size; have := K3.out.size; omega)
        have KL : Hid (Keep F1 wr w6) := Lib.hid (((K2.out.trans (F' := fun q => F1 q ∨ q = g) (fun q hq => by
            rcases hq with e | e
            · exact Or.inl e
            · right; have := HGL.out; omega) K3.out).trans (F' := fun q => F3 q ∨ q = g) (fun q hq => by
            rcases hq with e | e
            · rcases SB3.out q e with e | e
              · exact Or.inl e
              · right; have := K2.out.size; omega
            · right; have := HGL.out; omega) K4.out).trans (Sub.refl _ _) (Keep.of_below B6.out))
        have KW : Hid (Keep F w w6) := Lib.hid (HP.out.kp.trans HP.out.sb KL.out)
        have SBW : Hid (Sub F4 F w) := Lib.hid (HP.out.sb.trans SB41.out HP.out.kp.size)
        have S6 : Hid (StAt w6 F4 b s4) := Lib.hid (S4.out.below B6.out)
        have MP6 : Hid (MapR w6 w.heap.size F4 M l fs) := Lib.hid (HP.out.mp.keep HP.out.kp.size KL.out SB41.out)
        have FL6 : Hid (OwnF w6 w.heap.size A n c svl) := Lib.hid (HP.out.fl.keep KL.out HP.out.nA)
        have NA6 : Hid (∀ a, A = some a → ¬ F4 a.block) := Lib.hid (fun a ha e => by
          rcases SB41.out _ e with e | e
          · exact HP.out.nA a ha e
          · have := (HP.out.fl.lt a ha).2; omega)
        have II : Hid (StInv s4 ∧ s4.begun ≤ s.begun + ((k + 1 : Nat) : Int) ∧ s4.dk.wt.length ≤ s.dk.wt.length + 2002 * (k + 1) ∧ s4.dk.wrote ≤ s.dk.wrote + 2002 * (k + 1)) := Lib.hid (by
          obtain ⟨m1, m2, m3, m4, m5, m6, m7, m8⟩ := MK.out
          rw [MKE.out] at m1 m2 m3 m4 m5 m6 m7 m8
          dsimp only at m1 m2 m3 m4 m5 m6 m7 m8
          have i1 := HP.out.i.fr; have i2 := HP.out.i.b2; have i3 := HP.out.i.g; have i4 := HP.out.i.bg; have i5 := HP.out.bg
          have := HPW.out; have := HPO.out
          exact ⟨⟨by omega, by omega, by rw [m1]; exact i3, by omega⟩, by omega, by omega, by omega⟩)
        clear l6 k6 z6 K2 K3 K4 SB3 SB4 S4 L5 B5
        by_cases hst : st = 0
        · subst hst
          have E : Hid (saveF fs 255 1 s [] = saveF fs (255 - (k + 1)) (((k + 1 : Nat) : Int) + 1) s4 (svl ++ [f])) := Lib.hid (by
            rw [HP.out.eq, K1, saveF_ok HFS.out (by rw [MKE.out]), MKE.out]; rfl)
          have hn1 := HP.out.ln
          obtain ⟨y0, y1, y2, y3⟩ := L6.out.cells
          go_wp2_with (first | (at_builtin; go_loud (refine app_fl _ rfl _ _ rfl w.heap.size n c A svl rfl (FL6.out.alloc _) w6.heap.size 0 1 f rfl (FlAt4.new w6 f _ _) FOK.out (by omega) (by have := KW.out.size; simp; omega) ?_)))
          intro g' cap' w7 o7 fk
          have O7 := Lib.hid o7; have FK := Lib.hid fk
          clear o7 fk y0 y1 y2 y3
          have AL : Below w6.heap.size w6 (w6.alloc (.cells #[.int .i64 f.name, .int .i64 f.file, .int .i64 f.first, .int .i64 f.blocks] 40 (0, 0))) := (Below.refl _ w6).alloc (Nat.le_refl _) _
          have HI : Hid (∀ q, q < w6.heap.size → (∀ a, A = some a → q ≠ a.block) → w7.heap[q]? = w6.heap[q]?) := Lib.hid (fun q hq hne => by
            rw [FK.out.1.block q (by have := AL.size; omega) (fun e => by obtain ⟨a, ha, e⟩ := e; exact hne a ha e)]
            exact AL.block q hq)
          have S7 : Hid (StAt w7 F4 b s4) := Lib.hid (S6.out.stay (Nat.le_trans AL.size FK.out.1.size) (fun q hq => HI.out q (S6.out.lt q hq) (fun a ha e => NA6.out a ha (by rw [← e]; exact hq))))
          have MP7 : Hid (MapR w7 w.heap.size F4 M l fs) := Lib.hid (MP6.out.low (fun q hq hf => HI.out q (by have := KW.out.size; omega) (fun a ha e => by have := (FL6.out.lt a ha).1; omega)))
          have KW7 : Hid (Keep F w w7) := Lib.hid ((KW.out.trans (Sub.refl _ _) (Keep.of_below AL)).trans (F' := fun q => ∃ a, A = some a ∧ q = a.block) (fun q hq => by obtain ⟨a, ha, e⟩ := hq; right; have := (FL6.out.lt a ha).1; omega) FK.out.1)
          have NA7 : Hid (¬ F4 g') := Lib.hid (fun e => by
            rcases FK.out.2 with ⟨a, ha, h⟩ | h
            · exact NA6.out a ha (by rw [← h]; exact e)
            · have := S6.out.lt _ e; have := AL.size; omega)
          clear AL
          go_wp2
          go_roundw
          case rel => exact ⟨k + 1, F4, s4, svl ++ [f], some ⟨g', 0, none⟩, n + 1, cap', by omega, by go_num, rfl, S7.out, II.out.1, II.out.2.1, II.out.2.2.1, II.out.2.2.2, KW7.out, SBW.out, MP7.out, O7.out, fun a ha => (by injection ha with ha; subst ha; exact NA7.out), by omega, E.out⟩
          case measure => show 257 - (intOf (.int .i64 ((k : Int) + 1 + 1))).toNat < 257 - (intOf (.int .i64 ((k : Int) + 1))).toNat; simp [intOf]; omega
        · have ds : (st != 0) = true := by simpa using hst
          have E : Hid (R = (st, s4, [])) := Lib.hid (by
            rw [← HR.out, HP.out.eq, K1, saveF_bad HFS.out (by rw [MKE.out]; exact hst), MKE.out])
          clear hst
          go_wp2
          refine bodyPost_ret (v := .tuple #[.slice none 0 0, .int .i64 st]) (by simp [results, Try.results30, go_sem]) rfl ?_
          rw [E.out]
          exact ⟨none, 0, 0, F4, rfl, OwnF.nil _ _, fun a ha => (by cases ha), S6.out, KW.out, SBW.out⟩
end Go.Proofs.Ytilmicekpclmbaa
