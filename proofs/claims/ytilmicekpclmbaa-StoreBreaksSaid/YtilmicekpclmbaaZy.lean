/-
  Package store: scan, Drop.
  Package store: a writer in memory; Create; the block that is held is written.
  Package store: the next block of a writer; Put; Close.
-/
import Derived.Test.YtilmicekpclmbaaZx
import Derived.Test.YtilmicekpclmbaaZp
import Derived.Deep.RegionLaw
namespace Go.Proofs.Ytilmicekpclmbaa
set_option linter.unusedVariables false
set_option linter.unusedSimpArgs false
set_option maxRecDepth 100000
open Go.RowKit

def markL : List Bool → List Int → Option (List Bool)
  | fr, [] => some fr
  | fr, a :: r => if fr.getD a.toNat false then markL (fr.set a.toNat false) r else none
noncomputable def scanR (s : Dk) : List Bool → List Fl → Int × List Bool
  | fr, [] => (0, fr)
  | fr, f :: r => if chainS s f ≠ 0 then (chainS s f, fr) else match markL fr (chainL s f) with | none => (6, fr) | some fr' => scanR s fr' r
noncomputable def St.scanned (s : St) : Int × List Bool := scanR s.dk (allF s.dk.blk.length) s.cat.files
theorem chainR_rng {s : Dk} (ok : s.Ok) (nr : Int) : ∀ (k : Nat) (place at_ : Int), chainEnd (chainR s nr k place at_) = 0 → ∀ p, p ∈ chainR s nr k place at_ → 2 ≤ p.at_ ∧ p.at_ < s.blk.length
  | 0, place, at_, h, p, hp => by
    unfold chainR at h hp
    split at h
    · rename_i e; rw [if_pos e] at hp; cases hp
    · cases h
  | k + 1, place, at_, h, p, hp => by
    unfold chainR at h hp
    split at h
    · rename_i e
      rw [if_pos e] at hp
      rcases List.mem_cons.1 hp with e1 | hp
      · subst e1
        obtain ⟨L, h1, h2, _⟩ := stepC_zero.1 e
        exact ⟨h2, (leafD_right ok h1).2.2.2.1⟩
      · exact chainR_rng ok nr k _ _ (by have h : (if (0 : Int) = 0 then chainEnd (chainR s nr k (place + 1) (stepN s at_)) else 0) = 0 := h; rw [if_pos rfl] at h; exact h) p hp
    · rename_i e
      have h : (if stepC s nr place at_ = 0 then chainEnd [] else stepC s nr place at_) = 0 := h
      rw [if_neg e] at h
      exact absurd h e
theorem chainL_rng {s : Dk} (ok : s.Ok) {f : Fl} {a : Int} (h : a ∈ chainL s f) : 2 ≤ a ∧ a < s.blk.length := by
  unfold chainL at h
  split at h
  · rename_i e
    obtain ⟨p, hp, rfl⟩ := List.mem_map.1 h
    exact chainR_rng ok _ _ _ _ e p hp
  · cases h
theorem chainS_cases (s : Dk) (f : Fl) : chainS s f = 0 ∨ chainS s f = 6 ∨ chainS s f = 7 := by
  unfold chainS chainP
  have : ∀ (k : Nat) (pl a : Int), chainEnd (chainR s f.file k pl a) = 0 ∨ chainEnd (chainR s f.file k pl a) = 6 ∨ chainEnd (chainR s f.file k pl a) = 7 := fun k => by
    induction k with
    | zero => intro pl a; unfold chainR; split; exact Or.inl rfl; exact Or.inr (Or.inl rfl)
    | succ k ih =>
      intro pl a
      unfold chainR
      split
      · show (if (0 : Int) = 0 then _ else (0 : Int)) = _ ∨ (if (0 : Int) = 0 then _ else (0 : Int)) = _ ∨ (if (0 : Int) = 0 then _ else (0 : Int)) = _
        rw [if_pos rfl]; exact ih _ _
      · rename_i e
        show (if stepC s f.file pl a = 0 then chainEnd [] else stepC s f.file pl a) = _ ∨ (if stepC s f.file pl a = 0 then chainEnd [] else stepC s f.file pl a) = _ ∨ (if stepC s f.file pl a = 0 then chainEnd [] else stepC s f.file pl a) = _
        rw [if_neg e]
        rcases stepC_cases s f.file pl a with q | q | q
        · exact absurd q e
        · exact Or.inr (Or.inl q)
        · exact Or.inr (Or.inr q)
  exact this _ _ _
theorem dropF_at {l : List Fl} {i : Nat} (hi : i < l.length) : l.drop i = flAt l i :: l.drop (i + 1) := by
  rw [← flAt_get hi]; exact List.drop_eq_getElem_cons hi
theorem scanR_bad {s : Dk} {fr : List Bool} {f : Fl} {r : List Fl} (h : chainS s f ≠ 0) : scanR s fr (f :: r) = (chainS s f, fr) := by
  show (if chainS s f ≠ 0 then _ else _) = _; rw [if_pos h]
theorem scanR_two {s : Dk} {fr : List Bool} {f : Fl} {r : List Fl} (h : chainS s f = 0) (m : markL fr (chainL s f) = none) : scanR s fr (f :: r) = (6, fr) := by
  show (if chainS s f ≠ 0 then _ else _) = _; rw [if_neg (fun e => e h), m]
theorem scanR_on {s : Dk} {fr fr' : List Bool} {f : Fl} {r : List Fl} (h : chainS s f = 0) (m : markL fr (chainL s f) = some fr') : scanR s fr (f :: r) = scanR s fr' r := by
  show (if chainS s f ≠ 0 then _ else _) = _; rw [if_neg (fun e => e h), m]
def ScanE (F : Nat → Prop) (b : Nat) (s : St) (w : World) (e : Ending) (w' : World) : Prop :=
  e = .returned (.int .i64 s.scanned.1) ∧ StStep F b { s with free := if s.scanned.1 = 0 then s.scanned.2 else s.free } w w'
theorem scan_bad {F : Nat → Prop} {b : Nat} {s : St} {w w' : World} (h : StAt w F b s) (n : s.scanned.1 ≠ 0) (hb : Below w.heap.size w w') : StStep F b { s with free := if s.scanned.1 = 0 then s.scanned.2 else s.free } w w' := by
  rw [if_neg n]
  exact StStep.of_below h hb
set_option maxHeartbeats 8000000 in
theorem scan_any (F b s) (w : World) (h : StAt w F b s) (hw : s.dk.wt.length ≤ 1000000) (hm : s.cat.files.length ≤ 1000) (hbl : ∀ i, i < s.cat.files.length → (flAt s.cat.files i).blocks ≤ 100000) :
    Calls Try.prog 34 #[.pointer (some ⟨b, 0, none⟩)] w (ScanE F b s w) := by
  have H := Lib.hid h
  have HBL := Lib.hid hbl
  have DOK := Lib.hid h.dok
  have n2 := h.dok.n2
  have n1 := h.dok.n1
  have SD : Hid (s.scanned = scanR s.dk (allF s.dk.blk.length) s.cat.files) := Lib.hid rfl
  clear hbl
  obtain ⟨Fd, d, A, n, c, G, k, hl⟩ := h
  obtain ⟨c0, -, c9, -, -, -⟩ := hl.cells
  have LE := Lib.hid (len_eq Fd d s.dk w hl.dk)
  have HLN : Hid (s.cat.files.length = n) := Lib.hid hl.fl.2.1
  have FR := Lib.hid hl.fl.reads
  have HL := Lib.hid hl
  rw [hl.fl.2.1] at hm
  clear hl
  go_enter Try.func34, Try.ntmps34
  go_wp2_with fail
  refine LE.out.mono ?_
  rintro e w2 ⟨rfl, rfl⟩
  obtain ⟨N, hN⟩ : ∃ N, s.dk.blk.length = N := ⟨_, rfl⟩
  rw [hN] at n1 n2 SD ⊢
  have HN := Lib.hid hN
  clear LE hN
  have AF := Lib.hid (allfree_any N n2 w)
  go_wp2_with fail
  refine AF.out.mono ?_
  rintro e w3 ⟨g, cc, rfl, ow, b3⟩
  have O3 := Lib.hid ow; have B3 := Lib.hid b3
  have hgw : w.heap.size ≤ g := (ow.1.lt _ rfl).1
  have c9 : w3.cell? ⟨b, 9, none⟩ = some (.slice A n c) := (b3.cell (p := ⟨b, 9, none⟩) HL.out.blt).trans c9
  clear AF ow b3 c0
  go_wp2
  go_loopw [22] (fun kv wr => ∃ (j : Nat) (fr : List Bool), j ≤ n ∧ kv = .int .i64 j ∧ OwnL wr w.heap.size (some ⟨g, 0, none⟩) N cc fr ∧ s.scanned = scanR s.dk fr (s.cat.files.drop j) ∧ Below w.heap.size w wr) (fun kv _ => n - (intOf kv).toNat)
  case atStart => exact ⟨0, _, Nat.zero_le _, rfl, O3.out, SD.out, B3.out⟩
  case round =>
    obtain ⟨j, fr, hj, rfl, ow, hs, hb⟩ := hrel
    have OW := Lib.hid ow; have HS := Lib.hid hs; have HB := Lib.hid hb
    clear ow hs hb c9
    by_cases hlt : j < n
    · have i1 : decide ((j : Int) < (n : Int)) = true := by rw [decide_eq_true_eq]; omega
      have i2 : (j : Int) < (n : Int) := by omega
      have i3 : (0 : Int) ≤ (j : Int) := by omega
      have hf := (FR.out.below HB.out) j (by rw [HLN.out]; exact hlt)
      obtain ⟨b', o', rfl, q1, q2, q3, q4, q5, q6⟩ := hf
      have DR := Lib.hid (dropF_at (l := s.cat.files) (i := j) (by rw [HLN.out]; exact hlt))
      have BL := Lib.hid (HBL.out j (by rw [HLN.out]; exact hlt))
      have HFO := Lib.hid q6
      generalize hf : flAt s.cat.files j = f at q2 q3 q4 q5 DR BL HFO
      clear hf q1 q6
      have bb := Lib.hid ((Below.refl _ wr).alloc (Nat.le_refl _) (.cells #[.int .i64 f.name, .int .i64 f.file, .int .i64 f.first, .int .i64 f.blocks] 40))
      have CH := Lib.hid (chain_any F b s f (wr.alloc (.cells #[.int .i64 f.name, .int .i64 f.file, .int .i64 f.first, .int .i64 f.blocks] 40)) ((H.out.below HB.out).below bb.out) HFO.out hw BL.out)
      go_wp2_with fail
      refine CH.out.mono ?_
      rintro e w4 ⟨b4, A4, n4, c4, rfl, o4⟩
      have OW4 := Lib.hid ((OW.out.below bb.out).below b4)
      have HB4 := Lib.hid (HB.out.trans ((bstep bb.out b4).mono HB.out.size))
      have O4 : Hid (OwnI w4 w.heap.size A4 n4 c4 (chainL s.dk f)) := Lib.hid ⟨o4.1.weak (fun a ha => by have := (o4.lt a ha).1; have := HB.out.size; simp at *; omega), o4.2⟩
      have SEP : Hid (∀ a, A4 = some a → g < a.block) := Lib.hid (fun a ha => by have := (o4.lt a ha).1; have h2 := (OW.out.1.lt _ rfl).2; simp at this; have h2 : g < wr.heap.size := h2; omega)
      clear CH bb b4 o4 q2 q3 q4 q5 OW HB
      rcases Int.decEq (chainS s.dk f) 0 with hc | hc
      · have ne : (chainS s.dk f != 0) = true := by rw [bne_iff_ne]; exact hc
        have R1 : Hid (s.scanned.1 = chainS s.dk f) := Lib.hid (by rw [HS.out, DR.out, scanR_bad hc])
        have R2 : Hid (s.scanned.1 ≠ 0) := Lib.hid (by rw [R1.out]; exact hc)
        obtain ⟨q, hq⟩ : ∃ q, chainS s.dk f = q := ⟨_, rfl⟩
        rw [hq] at ne R1 ⊢
        clear hc hq
        go_wp2
        go_ret
        exact ⟨by rw [R1.out]; rfl, scan_bad H.out R2.out HB4.out⟩
      · have ne : (chainS s.dk f != 0) = false := by simp [hc]
        have CZ := Lib.hid hc
        rw [hc] at ne ⊢
        have hlen : n4 ≤ 100001 := by
          have h2 := O4.out.2.1
          have h3 := @chainP_len s.dk f
          have h4 := BL.out
          unfold chainL at h2
          rw [if_pos CZ.out, List.length_map] at h2
          omega
        have RNG := Lib.hid (fun i (hi : i < n4) => chainL_rng DOK.out (iAt_mem (l := chainL s.dk f) (i := i) (by rw [O4.out.2.1]; exact hi)))
        clear hc
        go_wp2
        go_loopw [37] (fun kv wr => ∃ (i : Nat) (fr' : List Bool), i ≤ n4 ∧ kv = .int .i64 i ∧ OwnL wr w.heap.size (some ⟨g, 0, none⟩) N cc fr' ∧ OwnI wr w.heap.size A4 n4 c4 (chainL s.dk f) ∧ markL fr (chainL s.dk f) = markL fr' ((chainL s.dk f).drop i) ∧ Below w.heap.size w wr) (fun kv _ => n4 - (intOf kv).toNat)
        case atStart => exact ⟨0, fr, Nat.zero_le _, rfl, OW4.out, O4.out, rfl, HB4.out⟩
        case round =>
          clear OW4 O4 HB4
          obtain ⟨i, fr', hi, rfl, ow, oi, hmk, hb⟩ := hrel
          rename World => w5
          have OW := Lib.hid ow; have OI := Lib.hid oi; have HMK := Lib.hid hmk; have HB := Lib.hid hb
          clear ow oi hmk hb
          by_cases hlt4 : i < n4
          · have k1 : decide ((i : Int) < (n4 : Int)) = true := by rw [decide_eq_true_eq]; omega
            have k2 : (i : Int) < (n4 : Int) := by omega
            have k3 : (0 : Int) ≤ (i : Int) := by omega
            obtain ⟨g4, hg4, hx4⟩ := OI.out.1.at (by omega)
            subst hg4
            have x0 := OI.out.cell i hlt4
            have hr := RNG.out i hlt4
            rw [HN.out] at hr
            have DI := Lib.hid (dropI_at (l := chainL s.dk f) (i := i) (by rw [OI.out.2.1]; exact hlt4))
            obtain ⟨a, ha⟩ : ∃ a : Nat, iAt (chainL s.dk f) i = (a : Int) := ⟨(iAt (chainL s.dk f) i).toNat, by omega⟩
            rw [ha] at x0 hr DI
            have a1 : (a : Int) < (N : Int) := hr.2
            have a0 : (0 : Int) ≤ (a : Int) := by omega
            have y0 := OW.out.cell a (by omega)
            have z0 := OW.out.frozen (by omega) a
            have SG : Hid (g < g4) := Lib.hid (SEP.out ⟨g4, 0, none⟩ rfl)
            obtain ⟨x, hx⟩ : ∃ x, fr'.getD a false = x := ⟨_, rfl⟩
            have HX := Lib.hid hx
            rw [hx] at y0
            clear hx4 hr ha hx
            cases x
            · have MN : Hid (markL fr (chainL s.dk f) = none) := Lib.hid (by
                rw [HMK.out, DI.out]
                show (if fr'.getD ((a : Int).toNat) false then _ else none) = none
                rw [Int.toNat_natCast, HX.out]; rfl)
              have R1 : Hid (s.scanned.1 = 6) := Lib.hid (by rw [HS.out, DR.out, scanR_two CZ.out MN.out])
              go_wp2
              go_ret
              exact ⟨by rw [R1.out]; rfl, scan_bad H.out (by rw [R1.out]; decide) HB.out⟩
            · have MS : Hid (markL fr (chainL s.dk f) = markL (fr'.set a false) ((chainL s.dk f).drop (i + 1))) := Lib.hid (by
                rw [HMK.out, DI.out]
                show (if fr'.getD ((a : Int).toNat) false then markL (fr'.set ((a : Int).toNat) false) _ else none) = _
                rw [Int.toNat_natCast, HX.out]; rfl)
              go_wp2
              go_roundw
              case rel => exact ⟨i + 1, _, by omega, by go_num, OW.out.set a false, OI.out.same (fun q hq => Below.heap_setCell _ _ _ _ (fun e => by injection hq with hq; subst hq; have e : g4 = g := e; have := SG.out; omega)), MS.out, HB.out.setCell (p := ⟨g, a, none⟩) hgw _⟩
              case measure => simp [intOf]; omega
          · obtain rfl : i = n4 := by omega
            have k1 : decide ((i : Int) < (i : Int)) = false := by simp
            have MS : Hid (markL fr (chainL s.dk f) = some fr') := Lib.hid (by
              rw [HMK.out, List.drop_eq_nil_of_le (by rw [OI.out.2.1]; exact Nat.le_refl _)]; rfl)
            go_wp2
            go_roundw
            case rel => exact ⟨j + 1, fr', by omega, by go_num, OW.out, by rw [HS.out, DR.out, scanR_on CZ.out MS.out], HB.out⟩
            case measure => simp [intOf]; omega
    · obtain rfl : j = n := by omega
      have i1 : decide ((j : Int) < (j : Int)) = false := by simp
      have R1 : Hid (s.scanned = (0, fr)) := Lib.hid (by rw [HS.out, List.drop_eq_nil_of_le (by rw [HLN.out]; exact Nat.le_refl _)]; rfl)
      have HL2 := Lib.hid (HL.out.below HB.out)
      have z0 := HL2.out.frozen 12
      have c12 := HL2.out.cells.2.2.2.2.2
      have OWL : Hid (fr.length = N) := Lib.hid OW.out.2
      go_wp2
      go_ret
      refine ⟨by rw [R1.out]; rfl, ?_⟩
      rw [R1.out]
      have an := HL2.out.anew (f := fr) (G' := some ⟨g, 0, none⟩) (k' := cc) (by rw [OWL.out]; exact OW.out.1.weak (fun _ _ => Nat.zero_le _)) (fun a ha e => by
        injection ha with ha; subst ha
        have := HL.out.lt g e
        omega)
      rw [OWL.out] at an
      exact ⟨_, ⟨_, _, _, _, _, _, _, an⟩, Keep.cellF (a := ⟨b, 12, none⟩) (Keep.of_below HB.out) (show F b from HL.out.fb) _, fun q hq => by
        rcases hq with hq | ⟨a, ha, rfl⟩
        · exact Or.inl hq
        · injection ha with ha; subst ha; exact Or.inr hgw⟩

def freed (fr : List Bool) (l : List Int) : List Bool := l.foldl (fun fr a => fr.set a.toNat true) fr
theorem freed_snoc (fr : List Bool) (l : List Int) (a : Int) : freed fr (l ++ [a]) = (freed fr l).set a.toNat true := by unfold freed; rw [List.foldl_append]; rfl
theorem freed_len (l : List Int) : ∀ (fr : List Bool), (freed fr l).length = fr.length := by
  induction l with
  | nil => intro fr; rfl
  | cons a r ih => intro fr; show (freed (fr.set a.toNat true) r).length = _; rw [ih, List.length_set]
/-- The free blocks behind a Drop. -/
noncomputable def St.dropF (s : St) (f : Fl) : List Bool := if namesIt s.cat.files f.file = true ∨ chainS s.dk f ≠ 0 then s.free else freed s.free (chainL s.dk f)
theorem takeI_succ {l : List Int} {i : Nat} (hi : i < l.length) : l.take (i + 1) = l.take i ++ [iAt l i] := by
  rw [List.take_succ_eq_append_getElem hi]
  unfold iAt
  rw [List.getD_eq_getElem?_getD, List.getElem?_eq_getElem hi]; rfl
set_option maxHeartbeats 8000000 in
theorem drop_any (F b s) (f : Fl) (w : World) (h : StAt w F b s) (hf : f.Ok) (hw : s.dk.wt.length ≤ 1000000) (hm : s.cat.files.length ≤ 1000) (hbl : f.blocks ≤ 100000) (hfr : s.free.length = s.dk.blk.length) :
    Calls Try.prog 25 #[.pointer (some ⟨b, 0, none⟩), .agg #[.int .i64 f.name, .int .i64 f.file, .int .i64 f.first, .int .i64 f.blocks]] w fun e w' => e = .returned (.tuple #[]) ∧ StStep F b { s with free := s.dropF f } w w' := by
  have H := Lib.hid h; have HFO := Lib.hid hf
  have DOK := Lib.hid h.dok
  have n1 := h.dok.n1
  clear h hf
  go_enter Try.func25, Try.ntmps25
  go_upto_region 1 with fail
  obtain ⟨W1, hW1⟩ : ∃ W1, W1 = w.alloc (.cells #[.int .i64 f.name, .int .i64 f.file, .int .i64 f.first, .int .i64 f.blocks] 40) := ⟨_, rfl⟩
  rw [← hW1]
  obtain ⟨r, hr⟩ : ∃ r, r = w.heap.size := ⟨_, rfl⟩
  rw [← hr]
  have V1 : Hid (FlV W1 r f) := Lib.hid (by rw [hW1, hr]; exact FlV.new w f)
  have B1 : Hid (Below w.heap.size w W1) := Lib.hid (by rw [hW1]; exact (Below.refl _ w).alloc (Nat.le_refl _) _)
  clear hW1 hr
  have H1 := Lib.hid (H.out.below B1.out)
  have NM := Lib.hid (names_any F b s f.file W1 H1.out hm)
  obtain ⟨-, y1, -, -⟩ := FlV.cells V1.out
  go_wp2_with fail
  refine NM.out.mono ?_
  rintro e w2 ⟨rfl, b2⟩
  have B2 := Lib.hid (bstep B1.out b2)
  have V2 := Lib.hid (Arr.below V1.out b2)
  have H2 := Lib.hid (H1.out.below b2)
  clear NM b2 y1 B1 V1 H1
  cases hn : namesIt s.cat.files f.file
  · have HNM := Lib.hid hn
    have CH := Lib.hid (chain_any F b s f w2 H2.out HFO.out hw hbl)
    obtain ⟨y0, y1, y2, y3⟩ := FlV.cells V2.out
    clear hn
    go_wp2_with fail
    refine CH.out.mono ?_
    rintro e w4 ⟨b4, A4, n4, c4, rfl, o4⟩
    have B4 := Lib.hid (bstep B2.out b4)
    have H4 := Lib.hid (H2.out.below b4)
    have hw4 : w.heap.size ≤ w2.heap.size := B2.out.size
    have O4 : Hid (OwnI w4 w.heap.size A4 n4 c4 (chainL s.dk f)) := Lib.hid ⟨o4.1.weak (fun a ha => by have := (o4.lt a ha).1; omega), o4.2⟩
    clear CH b4 o4 y0 y1 y2 y3 B2 V2 H2
    rcases Int.decEq (chainS s.dk f) 0 with hc | hc
    · have ne : (chainS s.dk f != 0) = true := by rw [bne_iff_ne]; exact hc
      have R1 : Hid (s.dropF f = s.free) := Lib.hid (by unfold St.dropF; rw [if_pos (Or.inr hc)])
      obtain ⟨q, hq⟩ : ∃ q, chainS s.dk f = q := ⟨_, rfl⟩
      rw [hq] at ne ⊢
      clear hc hq
      go_wp2
      refine bodyPost_ret (results_none rfl _ _ _) rfl ?_
      exact ⟨rfl, by rw [R1.out]; exact StStep.of_below H.out B4.out⟩
    · have ne : (chainS s.dk f != 0) = false := by simp [hc]
      have CZ := Lib.hid hc
      rw [hc] at ne ⊢
      have R1 : Hid (s.dropF f = freed s.free (chainL s.dk f)) := Lib.hid (by unfold St.dropF; rw [if_neg (fun e => by rcases e with e | e; rw [HNM.out] at e; cases e; exact e CZ.out)])
      have hlen : n4 ≤ 100001 := by
        have h2 := O4.out.2.1
        have h3 := @chainP_len s.dk f
        unfold chainL at h2
        rw [if_pos CZ.out, List.length_map] at h2
        omega
      have RNG := Lib.hid (fun i (hi : i < n4) => chainL_rng DOK.out (iAt_mem (l := chainL s.dk f) (i := i) (by rw [O4.out.2.1]; exact hi)))
      obtain ⟨Fd, d, A, n, c, G, k, hl⟩ := H.out
      obtain ⟨g, rfl⟩ := OwnL.nn (w := w) (n := s.free.length) ⟨hl.fr, rfl⟩ (by omega)
      have hgw : g < w.heap.size := hl.lt g (hl.fG _ rfl)
      have L4 := Lib.hid (hl.below B4.out)
      clear hc hl
      go_wp2
      go_loopw [22] (fun kv wr => ∃ (i : Nat) (fr : List Bool), i ≤ n4 ∧ kv = .int .i64 i ∧ StLay wr F b { s with free := fr } Fd d A n c (some ⟨g, 0, none⟩) k ∧ OwnI wr w.heap.size A4 n4 c4 (chainL s.dk f) ∧ fr = freed s.free ((chainL s.dk f).take i) ∧ Keep F w wr) (fun kv _ => n4 - (intOf kv).toNat)
      case atStart => exact ⟨0, s.free, Nat.zero_le _, rfl, L4.out, O4.out, rfl, Keep.of_below B4.out⟩
      case round =>
        clear L4 O4 B4 H4
        obtain ⟨i, fr, hi, rfl, sl, oi, hfq, kp⟩ := hrel
        rename World => w5
        have SL := Lib.hid sl; have OI := Lib.hid oi; have HFQ := Lib.hid hfq; have KP := Lib.hid kp
        have FLN : Hid (fr.length = s.dk.blk.length) := Lib.hid (by rw [hfq, freed_len]; exact hfr)
        clear sl oi hfq kp
        by_cases hlt4 : i < n4
        · have k1 : decide ((i : Int) < (n4 : Int)) = true := by rw [decide_eq_true_eq]; omega
          have k2 : (i : Int) < (n4 : Int) := by omega
          have k3 : (0 : Int) ≤ (i : Int) := by omega
          obtain ⟨g4, hg4, hx4⟩ := OI.out.1.at (by omega)
          subst hg4
          have x0 := OI.out.cell i hlt4
          have hr := RNG.out i hlt4
          have TI := Lib.hid (takeI_succ (l := chainL s.dk f) (i := i) (by rw [OI.out.2.1]; exact hlt4))
          have hg4 : w.heap.size ≤ g4 := (OI.out.lt _ rfl).1
          obtain ⟨a, ha⟩ : ∃ a : Nat, iAt (chainL s.dk f) i = (a : Int) := ⟨(iAt (chainL s.dk f) i).toNat, by omega⟩
          rw [ha] at x0 hr TI
          obtain ⟨fl, hfl⟩ : ∃ fl, fr.length = fl := ⟨_, rfl⟩
          have hfl2 := FLN.out
          rw [hfl] at hfl2
          have a1 : (a : Int) < (fl : Int) := by omega
          have a0 : (0 : Int) ≤ (a : Int) := by omega
          have OL : OwnL w5 0 (some ⟨g, 0, none⟩) fl k fr := by rw [← hfl]; exact ⟨SL.out.fr, rfl⟩
          have y0 := OL.cell a (by omega)
          have z0 := OL.frozen (by omega) a
          have c12 : w5.cell? ⟨b, 12, none⟩ = some (.slice (some ⟨g, 0, none⟩) fl k) := by rw [← hfl]; exact SL.out.cells.2.2.2.2.2
          have SM := Lib.hid (SL.out.mark (i := a) true)
          clear hx4 hr ha OL hfl hfl2
          go_wp2
          go_roundw
          case rel => exact ⟨i + 1, fr.set a true, by omega, by go_num, SM.out, OI.out.same (fun q hq => Below.heap_setCell _ _ _ _ (fun e => by injection hq with hq; subst hq; have e : g4 = g := e; omega)), by rw [TI.out, freed_snoc, HFQ.out]; rfl, Keep.cellF (a := ⟨g, a, none⟩) KP.out (show F g from SL.out.fG ⟨g, 0, none⟩ rfl) _⟩
          case measure => simp [intOf]; omega
        · obtain rfl : i = n4 := by omega
          have k1 : decide ((i : Int) < (i : Int)) = false := by simp
          have E : Hid (fr = s.dropF f) := Lib.hid (by rw [R1.out, HFQ.out, List.take_of_length_le (by rw [OI.out.2.1]; exact Nat.le_refl _)])
          go_wp2
          go_end0
          exact ⟨rfl, F, by rw [← E.out]; exact ⟨_, _, _, _, _, _, _, SL.out⟩, KP.out, Sub.refl _ _⟩
  · have R1 : Hid (s.dropF f = s.free) := Lib.hid (by unfold St.dropF; rw [if_pos (Or.inl hn)])
    clear hn
    go_wp2
    refine bodyPost_ret (results_none rfl _ _ _) rfl ?_
    exact ⟨rfl, by rw [R1.out]; exact StStep.of_below H.out B2.out⟩
end Go.Proofs.Ytilmicekpclmbaa
namespace Go.Proofs.Ytilmicekpclmbaa
set_option linter.unusedVariables false
set_option linter.unusedSimpArgs false
set_option maxRecDepth 100000
open Go.RowKit

structure Wr where
  status : Int
  file : Fl
  held : Lf
  at_ : Int
structure Wr.Ok (r : Wr) : Prop where
  f : r.file.Ok
  h : r.held.Ok
/-- A writer's cells. -/
def wrv (b : Nat) (r : Wr) : List Value := .pointer (some ⟨b, 0, none⟩) :: .int .i64 r.status :: .int .i64 r.file.name :: .int .i64 r.file.file :: .int .i64 r.file.first :: .int .i64 r.file.blocks :: (lv r.held ++ [.int .i64 r.at_])
theorem wrv_len {b : Nat} {r : Wr} (h : r.Ok) : (wrv b r).length = 128 := by unfold wrv; simp [lv_len h.h]
theorem wrv_one (b : Nat) (r : Wr) (v : Value) (h : v ∈ wrv b r) : v.oneCell' = true := by
  unfold wrv at h
  simp only [List.mem_cons, List.mem_append, List.not_mem_nil, or_false] at h
  rcases h with rfl | rfl | rfl | rfl | rfl | rfl | h | rfl
  · rfl
  · rfl
  · rfl
  · rfl
  · rfl
  · rfl
  · exact lv_one _ _ h
  · rfl
def WrAt (w : World) (g b : Nat) (r : Wr) : Prop := Arr w g 96 (wrv b r) ∧ r.Ok
section
variable {w w' : World} {g b : Nat} {r : Wr}
theorem WrAt.below (h : WrAt w g b r) (hb : Below w.heap.size w w') : WrAt w' g b r := ⟨h.1.below hb, h.2⟩
theorem WrAt.same (h : WrAt w g b r) (e : w'.heap[g]? = w.heap[g]?) : WrAt w' g b r := ⟨h.1.same e, h.2⟩
theorem WrAt.lt (h : WrAt w g b r) : g < w.heap.size := h.1.lt
theorem WrAt.frozen (h : WrAt w g b r) (k : Nat) : w.frozen? ⟨g, k, none⟩ = false := h.1.frozen k
theorem WrAt.cells (h : WrAt w g b r) : w.cell? ⟨g, 0, none⟩ = some (.pointer (some ⟨b, 0, none⟩)) ∧ w.cell? ⟨g, 1, none⟩ = some (.int .i64 r.status) ∧ w.cell? ⟨g, 3, none⟩ = some (.int .i64 r.file.file) ∧ w.cell? ⟨g, 4, none⟩ = some (.int .i64 r.file.first) ∧ w.cell? ⟨g, 5, none⟩ = some (.int .i64 r.file.blocks) ∧ w.cell? ⟨g, 10, none⟩ = some (.int .i64 r.held.size) :=
  ⟨h.1.cell 0, h.1.cell 1, h.1.cell 3, h.1.cell 4, h.1.cell 5, h.1.cell 10⟩
theorem wrv_at (h : r.Ok) : (wrv b r)[127]? = some (.int .i64 r.at_) := by
  have e : (lv r.held).length = 121 := lv_len h.h
  show (lv r.held ++ [Value.int .i64 r.at_])[121]? = _
  rw [List.getElem?_append_right (by omega), e]; rfl
theorem WrAt.at_ (h : WrAt w g b r) : w.cell? ⟨g, 127, none⟩ = some (.int .i64 r.at_) := (h.1.cell 127).trans (wrv_at h.2)
theorem WrAt.name (h : WrAt w g b r) : w.cell? ⟨g, 2, none⟩ = some (.int .i64 r.file.name) := h.1.cell 2
/-- The leaf that is held lies inside. -/
theorem WrAt.held (h : WrAt w g b r) : w.rangeAt g 6 (lv r.held) := fun j v hv => by
  rw [h.1.cell]
  have hj : j < (lv r.held).length := by
    rcases Nat.lt_or_ge j (lv r.held).length with e | e
    · exact e
    · rw [List.getElem?_eq_none e] at hv; cases hv
  rw [Nat.add_comm]
  show (lv r.held ++ [Value.int .i64 r.at_])[j]? = _
  rw [List.getElem?_append_left hj]; exact hv
theorem WrAt.loadH (h : WrAt w g b r) : (loadLf (.pointer (some ⟨g, 6, none⟩))).run Try.prog w = .ok (.agg (lv r.held).toArray) w :=
  run_loadAt_mid (P := Try.prog) w g 6 91 (lv r.held) _ h.held Try.underlying91 rfl (by rw [lv_len h.2.h]; exact Try.size_leaf)
theorem WrAt.status {v : Int} (h : WrAt w g b r) : WrAt (w.setCell ⟨g, 1, none⟩ (.int .i64 v)) g b { r with status := v } := ⟨h.1.set 1 _, ⟨h.2.f, h.2.h⟩⟩
theorem WrAt.first {v : Int} (h : WrAt w g b r) (hv : I64x v) : WrAt (w.setCell ⟨g, 4, none⟩ (.int .i64 v)) g b { r with file := { r.file with first := v } } := ⟨h.1.set 4 _, ⟨⟨h.2.f.a, h.2.f.b, hv, h.2.f.d⟩, h.2.h⟩⟩
theorem WrAt.blocks {v : Int} (h : WrAt w g b r) (hv : I64x v) : WrAt (w.setCell ⟨g, 5, none⟩ (.int .i64 v)) g b { r with file := { r.file with blocks := v } } := ⟨h.1.set 5 _, ⟨⟨h.2.f.a, h.2.f.b, h.2.f.c, hv⟩, h.2.h⟩⟩
theorem WrAt.next {v : Int} (h : WrAt w g b r) (hv : I64x v) : WrAt (w.setCell ⟨g, 9, none⟩ (.int .i64 v)) g b { r with held := { r.held with next := v } } := ⟨h.1.set 9 _, ⟨h.2.f, ⟨h.2.h.k, h.2.h.f, h.2.h.p, hv, h.2.h.s, h.2.h.l, h.2.h.u⟩⟩⟩
theorem WrAt.size {v : Int} (h : WrAt w g b r) (hv : I64x v) : WrAt (w.setCell ⟨g, 10, none⟩ (.int .i64 v)) g b { r with held := { r.held with size := v } } := ⟨h.1.set 10 _, ⟨h.2.f, ⟨h.2.h.k, h.2.h.f, h.2.h.p, h.2.h.n, hv, h.2.h.l, h.2.h.u⟩⟩⟩
theorem WrAt.setAt {v : Int} (h : WrAt w g b r) : WrAt (w.setCell ⟨g, 127, none⟩ (.int .i64 v)) g b { r with at_ := v } := ⟨by
  have := h.1.set 127 (.int .i64 v)
  have e : (wrv b r).set 127 (.int .i64 v) = wrv b { r with at_ := v } := by
    show _ :: _ :: _ :: _ :: _ :: _ :: ((lv r.held ++ [Value.int .i64 r.at_]).set 121 (.int .i64 v)) = _
    have e1 : (lv r.held).length = 121 := lv_len h.2.h
    rw [List.set_append_right _ _ (by omega), e1]; rfl
  rw [e] at this
  exact this, ⟨h.2.f, h.2.h⟩⟩
theorem WrAt.far {q k : Nat} {v : Value} (h : WrAt w g b r) (hne : g ≠ q) : WrAt (w.setCell ⟨q, k, none⟩ v) g b r := ⟨h.1.far hne v, h.2⟩
theorem WrAt.range {cs : List Value} {o : Nat} {T : TypeId} {vs : List Value} (h : Arr w g T vs) (hl : o + cs.length ≤ vs.length) : w.there g o cs.length := fun j hj => by
  refine ⟨?_, h.frozen _⟩
  rw [h.cell, List.getElem?_eq_getElem (by omega)]; rfl
end
def Wr.fresh (nm nr st : Int) : Wr := ⟨st, ⟨nm, nr, 0, 0⟩, Lf.zero, 0⟩
theorem Try.zero_wr : (Try.prog.info? 96).map (fun i => (i.zero, i.size)) = some (some (.agg (.pointer none :: (wrv 0 (Wr.fresh 0 0 0)).tail).toArray), 128) := by kernel_rfl
theorem Try.places_wr : (match Try.prog.underlying 96 with | some (.struct fs) => fs.toList.mapM (fun f => (Try.prog.info? f.type).map fun i => (f.offset, i.size)) | _ => none) = some [(0, 1), (1, 1), (2, 4), (6, 121), (127, 1)] := by kernel_rfl
theorem built_wrA (b : Nat) (st : Int) : Try.prog.built 96 [(0, .pointer (some ⟨b, 0, none⟩)), (1, .int .i64 st)] = some (wrv b ⟨st, Fl.zero, Lf.zero, 0⟩).toArray := by
  have h1 := Try.zero_wr
  have h2 := Try.places_wr
  unfold Program.built
  cases hi : Try.prog.info? 96 with
  | none => rw [hi] at h1; cases h1
  | some it =>
    rw [hi] at h1
    simp at h1
    cases hu : Try.prog.underlying 96 with
    | none => rw [hu] at h2; cases h2
    | some d =>
      rw [hu] at h2
      cases d <;> try (simp at h2; done)
      rename_i fs
      simp only at h2
      simp only [h1.1, h2]
      simp [Instr.fill, Value.cells, wrv, Wr.fresh, Fl.zero]
theorem built_wrB (b : Nat) (nm nr : Int) : Try.prog.built 96 [(0, .pointer (some ⟨b, 0, none⟩)), (2, .agg #[.int .i64 nm, .int .i64 nr, .int .i64 0, .int .i64 0])] = some (wrv b ⟨0, ⟨nm, nr, 0, 0⟩, Lf.zero, 0⟩).toArray := by
  have h1 := Try.zero_wr
  have h2 := Try.places_wr
  unfold Program.built
  cases hi : Try.prog.info? 96 with
  | none => rw [hi] at h1; cases h1
  | some it =>
    rw [hi] at h1
    simp at h1
    cases hu : Try.prog.underlying 96 with
    | none => rw [hu] at h2; cases h2
    | some d =>
      rw [hu] at h2
      cases d <;> try (simp at h2; done)
      rename_i fs
      simp only at h2
      simp only [h1.1, h2]
      simp [Instr.fill, Value.cells, wrv, Wr.fresh]
section
variable {ops : Array Oper} {rs : List Oper} {o : Oper} {a : Act} {w : World} {Q : Exit → Act → World → Prop}
theorem build_wrA (hgd : o.guard = none) (x0 x1 : Operand) (ho : o.op = .build 96 #[(0, x0), (1, x1)]) (b : Nat) (st : Int) (h0 : a.eval x0 = .pointer (some ⟨b, 0, none⟩)) (h1 : a.eval x1 = .int .i64 st)
    (h : wpList Try.prog ops Q rs (a.put o.dst (.agg (wrv b ⟨st, Fl.zero, Lf.zero, 0⟩).toArray)) w) : wpList Try.prog ops Q (o :: rs) a w :=
  wpList_plain hgd fun K hK => by
    unfold Oper.wp execOp
    have e : (#[(0, x0), (1, x1)] : Array (Nat × Operand)).map (fun x => (x.1, a.eval x.2)) = #[(0, .pointer (some ⟨b, 0, none⟩)), (1, .int .i64 st)] := by simp [h0, h1]
    simp only [ho, e, run_build w 96 #[(0, .pointer (some ⟨b, 0, none⟩)), (1, .int .i64 st)] _ (built_wrA b st), Sem.run_bind, Sem.run_pure, Result.andThen_ok]
    exact hK _ _ h
theorem build_wrB (hgd : o.guard = none) (x0 x1 : Operand) (ho : o.op = .build 96 #[(0, x0), (2, x1)]) (b : Nat) (nm nr : Int) (h0 : a.eval x0 = .pointer (some ⟨b, 0, none⟩)) (h1 : a.eval x1 = .agg #[.int .i64 nm, .int .i64 nr, .int .i64 0, .int .i64 0])
    (h : wpList Try.prog ops Q rs (a.put o.dst (.agg (wrv b ⟨0, ⟨nm, nr, 0, 0⟩, Lf.zero, 0⟩).toArray)) w) : wpList Try.prog ops Q (o :: rs) a w :=
  wpList_plain hgd fun K hK => by
    unfold Oper.wp execOp
    have e : (#[(0, x0), (2, x1)] : Array (Nat × Operand)).map (fun x => (x.1, a.eval x.2)) = #[(0, .pointer (some ⟨b, 0, none⟩)), (2, .agg #[.int .i64 nm, .int .i64 nr, .int .i64 0, .int .i64 0])] := by simp [h0, h1]
    simp only [ho, e, run_build w 96 #[(0, .pointer (some ⟨b, 0, none⟩)), (2, .agg #[.int .i64 nm, .int .i64 nr, .int .i64 0, .int .i64 0])] _ (built_wrB b nm nr), Sem.run_bind, Sem.run_pure, Result.andThen_ok]
    exact hK _ _ h
theorem box_wr (hgd : o.guard = none) (x : Operand) (ho : o.op = .box 96 x) (b : Nat) (r : Wr) (hr : r.Ok) (hx : a.eval x = .agg (wrv b r).toArray)
    (h : ∀ w1, WrAt w1 w.heap.size b r → Below w.heap.size w w1 → w1.heap.size = w.heap.size + 1 → wpList Try.prog ops Q rs (a.put o.dst (.pointer (some ⟨w.heap.size, 0, none⟩))) w1) : wpList Try.prog ops Q (o :: rs) a w :=
  wpList_plain hgd fun K hK => by
    unfold Oper.wp execOp
    simp only [ho, hx, Instr.box, newVar, newRow, newObj, Value.cells, Sem.run_bind, Sem.run_pure, Result.andThen_ok]
    exact hK _ _ (h _ ⟨Arr.new w _ _, hr⟩ ((Below.refl _ _).alloc (Nat.le_refl _) _) (by simp))
end
/-- The writer that Create makes. -/
def St.newWr (s : St) (nm : Int) : Wr := if 64 ≤ s.begun + 1 then ⟨5, Fl.zero, Lf.zero, 0⟩ else ⟨0, ⟨nm, 64 * (s.cat.gen + 1) + (s.begun + 1), 0, 0⟩, Lf.zero, 0⟩
def CreateE (F : Nat → Prop) (b : Nat) (s : St) (nm : Int) (w : World) (e : Ending) (w' : World) : Prop :=
  ∃ g, w.heap.size ≤ g ∧ e = .returned (.pointer (some ⟨g, 0, none⟩)) ∧ WrAt w' g b (s.newWr nm) ∧ StAt w' F b { s with begun := s.begun + 1 } ∧ Keep F w w'
set_option maxHeartbeats 1000000 in
theorem create_any (F b s) (nm : Int) (w : World) (h : StAt w F b s) (hnm : I64x nm) (hg0 : 0 ≤ s.cat.gen) (hg1 : s.cat.gen ≤ 1000000) (hbg : s.begun + 1 ≤ 1000000000) :
    Calls Try.prog 22 #[.pointer (some ⟨b, 0, none⟩), .int .i64 nm] w (CreateE F b s nm w) := by
  obtain ⟨Fd, d, A, n, c, G, k, hl⟩ := h
  obtain ⟨-, c1, -, -, c11, -⟩ := hl.cells
  have z11 := hl.frozen 11
  have hb0 := hl.begun.1
  have HL2 := Lib.hid (hl.word (s' := { s with begun := s.begun + 1 }) 11 (.int .i64 (s.begun + 1)) rfl rfl rfl hl.slot ⟨by show 0 ≤ s.begun + 1; omega, hbg⟩ rfl)
  have FB : Hid (F b) := Lib.hid hl.fb
  have HBL : b < w.heap.size := hl.blt
  have HNM := Lib.hid hnm
  clear hl hnm
  obtain ⟨bg, hbg2⟩ : ∃ q, s.begun + 1 = q := ⟨_, rfl⟩
  have HBG := Lib.hid hbg2
  go_enter Try.func22, Try.ntmps22
  have y11 : (w.setCell ⟨b, 11, none⟩ (.int .i64 (s.begun + 1))).cell? ⟨b, 11, none⟩ = some (.int .i64 (s.begun + 1)) := HL2.out.cells.2.2.2.2.1
  have y1 : (w.setCell ⟨b, 11, none⟩ (.int .i64 (s.begun + 1))).cell? ⟨b, 1, none⟩ = some (.int .i64 s.cat.gen) := HL2.out.cells.2.1
  by_cases t : 64 ≤ s.begun + 1
  · have d0 : decide (s.begun + 1 ≥ 64) = true := by rw [decide_eq_true_eq]; omega
    have d1 : decide (64 ≤ s.begun + 1) = true := by rw [decide_eq_true_eq]; omega
    have NW : Hid (s.newWr nm = ⟨5, Fl.zero, Lf.zero, 0⟩) := Lib.hid (by unfold St.newWr; rw [if_pos t])
    clear t hbg2
    go_wp2_with (with_reducible refine build_wrA rfl _ _ rfl b 5 rfl rfl ?_)
    go_ret
    refine ⟨w.heap.size, Nat.le_refl _, rfl, ?_, ⟨_, _, _, _, _, _, _, HL2.out.below ((Below.refl _ _).alloc (Nat.le_refl _) _)⟩, (Keep.cellF (a := ⟨b, 11, none⟩) (Keep.refl F w) FB.out _).trans (Sub.refl _ _) (Keep.of_below ((Below.refl _ _).alloc (Nat.le_refl _) _))⟩
    rw [NW.out]
    have := Arr.new (w.setCell ⟨b, 11, none⟩ (.int .i64 (s.begun + 1))) 96 (wrv b ⟨5, Fl.zero, Lf.zero, 0⟩)
    rw [setCell_size] at this
    exact ⟨this, Fl.zero_ok, Lf.zero_ok⟩
  · have d0 : decide (s.begun + 1 ≥ 64) = false := by rw [decide_eq_false_iff_not]; omega
    have d1 : decide (64 ≤ s.begun + 1) = false := by rw [decide_eq_false_iff_not]; omega
    have NW : Hid (s.newWr nm = ⟨0, ⟨nm, 64 * (s.cat.gen + 1) + (s.begun + 1), 0, 0⟩, Lf.zero, 0⟩) := Lib.hid (by unfold St.newWr; rw [if_neg t])
    have e0 : IntKind.i64.wrap (s.begun + 1) = s.begun + 1 := IntWalk.i64_in _ (by omega)
    have e1 : IntKind.i64.wrap (s.cat.gen + 1) = s.cat.gen + 1 := IntWalk.i64_in _ (by omega)
    have e2 : IntKind.i64.wrap (64 * (s.cat.gen + 1)) = 64 * (s.cat.gen + 1) := IntWalk.i64_in _ (by omega)
    have e3 : IntKind.i64.wrap (64 * (s.cat.gen + 1) + (s.begun + 1)) = 64 * (s.cat.gen + 1) + (s.begun + 1) := IntWalk.i64_in _ (by omega)
    have f0 : (⟨nm, 64 * (s.cat.gen + 1) + (s.begun + 1), 0, 0⟩ : Fl).Ok := ⟨HNM.out, ⟨by show _ ≤ 64 * (s.cat.gen + 1) + (s.begun + 1); omega, by show 64 * (s.cat.gen + 1) + (s.begun + 1) ≤ _; omega⟩, ⟨by show _ ≤ (0 : Int); decide, by show (0 : Int) ≤ _; decide⟩, ⟨by show _ ≤ (0 : Int); decide, by show (0 : Int) ≤ _; decide⟩⟩
    have F0 := Lib.hid f0
    clear t hbg2 f0
    go_wp2_with fail
    go_quiet (fail)
    go_wp2_with (with_reducible refine build_wrB rfl _ _ rfl b nm _ rfl rfl ?_)
    go_ret
    refine ⟨w.heap.size, Nat.le_refl _, rfl, ?_, ?_, ?_⟩
    · rw [NW.out]
      have := Arr.new ((w.setCell ⟨b, 11, none⟩ (.int .i64 (s.begun + 1))).drewN nq) 96 (wrv b ⟨0, ⟨nm, 64 * (s.cat.gen + 1) + (s.begun + 1), 0, 0⟩, Lf.zero, 0⟩)
      rw [drewN_heap, setCell_size] at this
      exact ⟨this, F0.out, Lf.zero_ok⟩
    · exact ⟨_, _, _, _, _, _, _, HL2.out.below (bstep (below_drewN (Below.refl _ _) nq) ((Below.refl _ _).alloc (Nat.le_refl _) _))⟩
    · exact (Keep.cellF (a := ⟨b, 11, none⟩) (Keep.refl F w) FB.out _).trans (Sub.refl _ _) (Keep.of_below (bstep (below_drewN (Below.refl _ _) nq) ((Below.refl _ _).alloc (Nat.le_refl _) _)))
/-- What a call of a writer leaves: of the store, of the writer. -/
def WrTo (F : Nat → Prop) (b g : Nat) (s' : St) (r' : Wr) (w w' : World) : Prop := ∃ F', StAt w' F' b s' ∧ WrAt w' g b r' ∧ Keep (fun q => F q ∨ q = g) w w' ∧ Sub F' F w ∧ ¬ F' g
set_option maxHeartbeats 4000000 in
attribute [local go_sem ↓] loadLf_eq in
theorem wwrite_any (F b s) (g : Nat) (r : Wr) (nx : Int) (i : Nat) (w : World) (h : StAt w F b s) (hr : WrAt w g b r) (hg : ¬ F g) (hnx : I64x nx) (hi : r.at_ = (i : Int)) (hil : i < s.dk.blk.length) (hR : ({ r.held with next := nx } : Lf).Right) (hw : s.dk.wt.length ≤ 1000000) (hv : s.dk.wrote ≤ 1000000000000) :
    Calls Try.prog 41 #[.pointer (some ⟨g, 0, none⟩), .int .i64 nx] w fun e w' => e = .returned (.int .i64 s.dk.says) ∧ WrTo F b g { s with dk := s.dk.write i ({ r.held with next := nx } : Lf).put } { r with held := { r.held with next := nx } } w w' := by
  obtain ⟨Fd, d, A, n, c, G, k, hl⟩ := h
  have WN := Lib.hid (hr.next hnx)
  obtain ⟨L, hL⟩ : ∃ L, ({ r.held with next := nx } : Lf) = L := ⟨_, rfl⟩
  rw [hL] at hR
  have LO : Hid L.Ok := Lib.hid (by rw [← hL]; exact WN.out.2.h)
  have RT : Hid (L.rt = true) := Lib.hid ((Lf.rt_iff LO.out).2 hR)
  have HRT := Lib.hid hR
  have z9 := hr.frozen 9
  have hgb : g ≠ b := fun e => hg (by rw [e]; exact hl.fb)
  have KG := Lib.hid (Keep.cellF (F := fun q => F q ∨ q = g) (a := ⟨g, 9, none⟩) (Keep.refl _ w) (Or.inr rfl) (.int .i64 nx))
  have SL := Lib.hid (hl.stay (w' := w.setCell ⟨g, 9, none⟩ (.int .i64 nx)) (by rw [setCell_size]; exact Nat.le_refl _) (fun q hq => Below.heap_setCell _ _ _ _ (fun e => by have e : q = g := e; subst e; exact hg hq)))
  have GLT : g < w.heap.size := hr.lt
  have BLT : b < w.heap.size := hl.blt
  have HG := Lib.hid hg
  have NE : Hid (∀ V, WrAt V g b { r with held := { r.held with next := nx } } → WrAt V g b { r with held := L }) := Lib.hid (fun V h => by rw [← hL]; exact h)
  have x9 : (w.setCell ⟨g, 9, none⟩ (.int .i64 nx)).heap.size = w.heap.size := setCell_size _ _ _
  obtain ⟨W, hW⟩ : ∃ W, w.setCell ⟨g, 9, none⟩ (.int .i64 nx) = W := ⟨_, rfl⟩
  have y9 : w.cell? ⟨g, 9, none⟩ = some (.int .i64 r.held.next) := hr.1.cell 9
  rw [hW] at WN KG SL x9
  have WL := Lib.hid (NE.out W WN.out)
  rw [hL]
  have GLW : g < W.heap.size := by omega
  have BLW : b < W.heap.size := by omega
  have HX9 := Lib.hid x9
  have a0 := WL.out.cells.1
  have a1 := WL.out.at_
  have a1 : W.cell? ⟨g, 127, none⟩ = some (.int .i64 (i : Int)) := by rw [a1]; show some (Value.int .i64 r.at_) = _; rw [hi]
  have a2 := SL.out.cells.1
  have a3 := WL.out.loadH
  have a3 : (loadLf (.pointer (some ⟨g, 6, none⟩))).run Try.prog W = .ok (.agg (lv L).toArray) W := a3
  have HWQ := Lib.hid hW
  have HI := Lib.hid hi
  clear hi
  have HLQ := Lib.hid hL
  clear hl hr hR hg hL x9 hnx
  go_enter Try.func41, Try.ntmps41
  go_wp2_with fail
  clear hW
  have a4 : (loadLf (.pointer (some ⟨g, 6, none⟩))).run Try.prog W.drew = .ok (.agg (lv L).toArray) W.drew := (WL.out.below (Below.refl _ _).drew).loadH
  have WLO : Hid (WrAt W g b { r with held := L }) := WL
  go_region_held_law (fun w' => w'.cell? ⟨g, 0, none⟩ = some (.pointer (some ⟨b, 0, none⟩)) ∧ w'.cell? ⟨b, 0, none⟩ = some (.pointer (some ⟨d, 0, none⟩)) ∧ w'.cell? ⟨g, 127, none⟩ = some (.int .i64 (i : Int)) ∧ (loadLf (.pointer (some ⟨g, 6, none⟩))).run Try.prog w' = .ok (.agg (lv L).toArray) w') (first | exact ⟨a0, a2, a1, a3⟩ | exact ⟨a0, a2, a1, a4⟩ | exact q)
    (first | (go_at_call 45; refine (disk_write Fd d s.dk i cn _ _ L.put w3 sl3.out.dk hil ⟨Lf.put_len LO.out, Lf.put_u8 LO.out HRT.out⟩ hown.reads (Nat.le_refl _) (fun a ha hq => by injection ha with ha; subst ha; have h1 := (hown.lt).1; have h1 : W.heap.size ≤ gn := h1; have h2 := SL.out.dk.lt gn hq; omega) hw hv).mono ?_; rintro e w4 ⟨rfl, st⟩; obtain ⟨F', Fd', s4, k4, sb4⟩ := sl3.out.disk st; have b3 : Below W.heap.size W w3 := (Below.refl _ _).drew.trans hbel; have hwg : g < w3.heap.size := Nat.lt_of_lt_of_le GLW b3.size; have W4 := Lib.hid (wl3.out.same (k4.block g hwg HG.out)); have S4 := Lib.hid s4; have K4' := Lib.hid k4; have SB4 := Lib.hid sb4; have B3 := Lib.hid b3; have q : w4.cell? ⟨g, 0, none⟩ = some (.pointer (some ⟨b, 0, none⟩)) ∧ w4.cell? ⟨b, 0, none⟩ = some (.pointer (some ⟨d, 0, none⟩)) ∧ w4.cell? ⟨g, 127, none⟩ = some (.int .i64 (i : Int)) ∧ (loadLf (.pointer (some ⟨g, 6, none⟩))).run Try.prog w4 = .ok (.agg (lv L).toArray) w4 := ⟨W4.out.cells.1, S4.out.cells.1, by rw [W4.out.at_]; show some (Value.int .i64 r.at_) = _; rw [HI.out], W4.out.loadH⟩; clear st s4 k4 sb4 b3) | (go_at_call 48; refine (put_yes L LO.out RT.out W.drew).mono ?_; rintro e w3 ⟨gn, cn, rfl, hown, hbel⟩; have wl3 := Lib.hid ((WLO.out.below (Below.refl _ _).drew).below hbel); have sl3 := Lib.hid ((SL.out.below (Below.refl _ _).drew).below hbel); have q : w3.cell? ⟨g, 0, none⟩ = some (.pointer (some ⟨b, 0, none⟩)) ∧ w3.cell? ⟨b, 0, none⟩ = some (.pointer (some ⟨d, 0, none⟩)) ∧ w3.cell? ⟨g, 127, none⟩ = some (.int .i64 (i : Int)) ∧ (loadLf (.pointer (some ⟨g, 6, none⟩))).run Try.prog w3 = .ok (.agg (lv L).toArray) w3 := ⟨wl3.out.cells.1, (hbel.cell (p := ⟨b, 0, none⟩) BLW).trans a2, (hbel.cell (p := ⟨g, 127, none⟩) GLW).trans a1, wl3.out.loadH⟩))
  have K4 : Hid (Keep (fun q => F q ∨ q = g) w w4) := Lib.hid ((KG.out.trans (Sub.refl _ _) (Keep.of_below B3.out)).trans (Sub.refl _ _) ⟨K4'.out.os, K4'.out.tape, K4'.out.output, K4'.out.size, fun q h1 h2 => K4'.out.block q h1 (fun e => h2 (Or.inl e))⟩)
  have SB : Hid (Sub F' F w ∧ ¬ F' g) := Lib.hid ⟨fun q hq => by
    rcases SB4.out q hq with e | e
    · exact Or.inl e
    · right; have := B3.out.size; have := HX9.out; omega, fun hq => by
    rcases SB4.out g hq with e | e
    · exact HG.out e
    · omega⟩
  clear q hbel hown
  go_wp2
  go_ret
  exact ⟨rfl, F', ⟨_, _, _, _, _, _, _, S4.out⟩, W4.out, K4.out, SB.out.1, SB.out.2⟩
end Go.Proofs.Ytilmicekpclmbaa
namespace Go.Proofs.Ytilmicekpclmbaa
set_option linter.unusedVariables false
set_option linter.unusedSimpArgs false
set_option maxRecDepth 100000
open Go.RowKit

theorem Arr.setMid {b : Nat} {T : TypeId} : ∀ (cs mid pre post : List Value) (w : World), mid.length = cs.length → Arr w b T (pre ++ (mid ++ post)) → Arr (w.setCells b pre.length cs) b T (pre ++ (cs ++ post)) ∧ Keep (· = b) w (w.setCells b pre.length cs) ∧ (w.setCells b pre.length cs).heap.size = w.heap.size
  | [], [], pre, post, w, _, h => ⟨h, Keep.refl _ _, rfl⟩
  | [], m :: mid, pre, post, w, hl, h => by simp at hl
  | c :: cs, [], pre, post, w, hl, h => by simp at hl
  | c :: cs, m :: mid, pre, post, w, hl, h => by
    have e : w.setCells b pre.length (c :: cs) = (w.setCell ⟨b, pre.length, none⟩ c).setCells b (pre.length + 1) cs := rfl
    have h1 := h.set pre.length c
    have e1 : (pre ++ (m :: mid ++ post)).set pre.length c = (pre ++ [c]) ++ (mid ++ post) := by
      rw [List.set_append_right _ _ (Nat.le_refl _), Nat.sub_self]
      simp
    rw [e1] at h1
    obtain ⟨h2, h3, h4⟩ := Arr.setMid cs mid (pre ++ [c]) post _ (by simpa using hl) h1
    have e2 : (pre ++ [c]).length = pre.length + 1 := by simp
    rw [e2] at h2 h3 h4
    rw [e]
    refine ⟨?_, ((Keep.refl (· = b) w).setCell rfl c).trans (Sub.refl _ _) h3, h4.trans (setCell_size _ _ _)⟩
    have e3 : pre ++ [c] ++ (cs ++ post) = pre ++ (c :: cs ++ post) := by simp
    rw [e3] at h2
    exact h2
theorem WrAt.setHeld {w : World} {g b : Nat} {r : Wr} (h : WrAt w g b r) {L : Lf} (hL : L.Ok) : WrAt (w.setCells g 6 (lv L)) g b { r with held := L } ∧ Keep (· = g) w (w.setCells g 6 (lv L)) ∧ (w.setCells g 6 (lv L)).heap.size = w.heap.size := by
  obtain ⟨h1, h2, h3⟩ := Arr.setMid (b := g) (T := 96) (lv L) (lv r.held) [.pointer (some ⟨b, 0, none⟩), .int .i64 r.status, .int .i64 r.file.name, .int .i64 r.file.file, .int .i64 r.file.first, .int .i64 r.file.blocks] [.int .i64 r.at_] w (by rw [lv_len hL, lv_len h.2.h]) h.1
  exact ⟨⟨h1, h.2.f, hL⟩, h2, h3⟩
def leaf3 (k f p : Int) : Lf := ⟨k, f, p, 0, 0, zeros 116⟩
theorem leaf3_ok {k f p : Int} (hk : I64x k) (hf : I64x f) (hp : I64x p) : (leaf3 k f p).Ok := ⟨hk, hf, hp, Lf.zero_ok.n, Lf.zero_ok.s, Lf.zero_ok.l, Lf.zero_ok.u⟩
theorem built_three (k f p : Int) : Try.prog.built 91 [(0, .int .i64 k), (1, .int .i64 f), (2, .int .i64 p)] = some (lv (leaf3 k f p)).toArray := by
  have h1 := Try.zero_leaf
  have h2 := Try.places_leaf
  unfold Program.built
  cases hi : Try.prog.info? 91 with
  | none => rw [hi] at h1; cases h1
  | some it =>
    rw [hi] at h1
    simp at h1
    cases hu : Try.prog.underlying 91 with
    | none => rw [hu] at h2; cases h2
    | some d =>
      rw [hu] at h2
      cases d <;> try (simp at h2; done)
      rename_i fs
      simp only at h2
      simp only [h1.1, h2]
      simp [Instr.fill, Value.cells, lv, Lf.zero, zeros, leaf3]
section
variable {ops : Array Oper} {o : Oper} {a : Act} {w : World} {K : Act → World → Prop} {Q : Exit → Act → World → Prop} {E : Prop}
theorem step_build3 (hgd : o.guard = none) (x0 x1 x2 : Operand) (ho : o.op = .build 91 #[(0, x0), (1, x1), (2, x2)]) (k f p : Int) (h0 : a.eval x0 = .int .i64 k) (h1 : a.eval x1 = .int .i64 f) (h2 : a.eval x2 = .int .i64 p)
    (h : K (a.put o.dst (.agg (lv (leaf3 k f p)).toArray)) w) : if Region.wanted o (yielded ops a.tmps) = true then Oper.wp Try.prog o a w K Q else E := by
  have hw : Region.wanted o (yielded ops a.tmps) = true := by unfold Region.wanted; rw [hgd]
  rw [if_pos hw]
  unfold Oper.wp execOp
  have e : (#[(0, x0), (1, x1), (2, x2)] : Array (Nat × Operand)).map (fun x => (x.1, a.eval x.2)) = #[(0, .int .i64 k), (1, .int .i64 f), (2, .int .i64 p)] := by simp [h0, h1, h2]
  simp only [ho, e, run_build w 91 #[(0, .int .i64 k), (1, .int .i64 f), (2, .int .i64 p)] _ (built_three k f p), Sem.run_bind, Sem.run_pure, Result.andThen_ok]
  exact h
theorem step_storeH (hgd : o.guard = none) (hdst : o.dst = none) (x y : Operand) (ho : o.op = .store 91 x y) (g b : Nat) (r : Wr) (L : Lf) (h0 : WrAt w g b r) (hL : L.Ok) (hx : a.eval x = .pointer (some ⟨g, 6, none⟩)) (hy : a.eval y = .agg (lv L).toArray)
    (h : ∀ w1, WrAt w1 g b { r with held := L } → Keep (· = g) w w1 → w1.heap.size = w.heap.size → K a w1) : if Region.wanted o (yielded ops a.tmps) = true then Oper.wp Try.prog o a w K Q else E := by
  have hw : Region.wanted o (yielded ops a.tmps) = true := by unfold Region.wanted; rw [hgd]
  rw [if_pos hw]
  have run := run_storeVar_mid (P := Try.prog) w g 6 91 (lv L).toArray (by
    rw [List.size_toArray]
    exact WrAt.range h0.1 (by rw [lv_len hL, wrv_len h0.2]; decide)) (by rw [List.size_toArray, lv_len hL]; exact Try.size_leaf) (all_oneCell_toArray (lv_one L))
  obtain ⟨h1, h2, h3⟩ := h0.setHeld hL
  unfold Oper.wp execOp
  simp only [ho, hx, hy, Instr.storeAt, Instr.sureAddr, Sem.run_bind, Sem.run_pure, Result.andThen_ok, run]
  show K (a.put o.dst _) _
  rw [hdst]
  exact h _ h1 h2 h3
end
theorem zc_leaf : Try.zeroCells91.toList = lv Lf.zero := by kernel_rfl
theorem zc_three (k f p : Int) : ((Try.zeroCells91.toList.set 0 (.int .i64 k)).set 1 (.int .i64 f)).set 2 (.int .i64 p) = lv (leaf3 k f p) := by rw [zc_leaf]; rfl
theorem storeH_run {w : World} {g b : Nat} {r : Wr} (h0 : WrAt w g b r) {L : Lf} (hL : L.Ok) : (storeCells ⟨g, 6, none⟩ (lv L) 0).run Try.prog w = .ok () (w.setCells g 6 (lv L)) :=
  run_storeCells_cells g 6 (lv L) 0 w (fun j hj => (WrAt.range (o := 6) (cs := lv L) h0.1 (by rw [lv_len hL, wrv_len h0.2]; decide) j hj).1) (fun j hj => (WrAt.range (o := 6) (cs := lv L) h0.1 (by rw [lv_len hL, wrv_len h0.2]; decide) j hj).2) (lv_one L)
theorem WrTo.on {F F1 : Nat → Prop} {b g : Nat} {s : St} {r : Wr} {w w1 w2 : World} (k1 : Keep (fun q => F q ∨ q = g) w w1) (s1 : Sub F1 F w) (h : WrTo F1 b g s r w1 w2) : WrTo F b g s r w w2 := by
  obtain ⟨F2, h1, h2, k2, s2, h3⟩ := h
  refine ⟨F2, h1, h2, k1.trans (fun q hq => ?_) k2, s1.trans s2 k1.size, h3⟩
  rcases hq with hq | hq
  · rcases s1 q hq with e | e
    · exact Or.inl (Or.inl e)
    · exact Or.inr e
  · exact Or.inl (Or.inr hq)
theorem cntT_set : ∀ {l : List Bool} {i : Nat}, lowF l = some i → cntT (l.set i false) + 1 = cntT l
  | [], i, h => by cases h
  | true :: r, i, h => by injection h with h; subst h; rfl
  | false :: r, i, h => by
    unfold lowF at h
    cases hr : lowF r with
    | none => rw [hr] at h; cases h
    | some k =>
      rw [hr] at h
      injection h with h
      subst h
      have := cntT_set hr
      exact this
/-- What holds of a writer and its store between two calls. -/
structure WrInv (s : St) (r : Wr) : Prop where
  b0 : 0 ≤ r.file.blocks
  b1 : r.file.blocks + cntT s.free ≤ 512
  f : 0 ≤ r.file.file ∧ r.file.file ≤ 65535
  fr : s.free.length = s.dk.blk.length
  h : 0 < r.file.blocks → (∃ i : Nat, r.at_ = (i : Int) ∧ i < s.dk.blk.length) ∧ r.held.kind = 1 ∧ r.held.file = r.file.file ∧ r.held.place = r.file.blocks - 1 ∧ (0 ≤ r.held.size ∧ r.held.size ≤ 116) ∧ r.held.bare
theorem WrInv.right {s : St} {r : Wr} (h : WrInv s r) (hb : 0 < r.file.blocks) {nx : Int} (h0 : 0 ≤ nx) (h1 : nx ≤ 65535) : ({ r.held with next := nx } : Lf).Right := by
  obtain ⟨_, k, f, p, z, br⟩ := h.h hb
  have := h.b1
  exact ⟨Or.inl k, by show 0 ≤ r.held.file ∧ r.held.file ≤ _; rw [f]; exact h.f, by show 0 ≤ r.held.place ∧ r.held.place ≤ _; rw [p]; omega, ⟨h0, h1⟩, z, br⟩
/-- The next block: what grow answers, and makes of the store and the writer. -/
noncomputable def growF (s : St) (r : Wr) : Int × St × Wr :=
  match lowF s.free with
  | none => (5, s, r)
  | some i =>
    if r.file.blocks = 0 then (0, { s with free := s.free.set i false }, { r with file := { r.file with first := i, blocks := 1 }, held := leaf3 1 r.file.file 0, at_ := i })
    else if s.dk.says = 0 then (0, { s with free := s.free.set i false, dk := s.dk.write r.at_.toNat ({ r.held with next := i } : Lf).put }, { r with file := { r.file with blocks := r.file.blocks + 1 }, held := leaf3 1 r.file.file r.file.blocks, at_ := i })
    else (s.dk.says, { s with free := s.free.set i false, dk := s.dk.write r.at_.toNat ({ r.held with next := i } : Lf).put }, { r with held := { r.held with next := i } })
theorem StAt.other {F : Nat → Prop} {b g : Nat} {s : St} {w w' : World} (h : StAt w F b s) (k : Keep (· = g) w w') (hg : ¬ F g) : StAt w' F b s := h.stay k.size (fun q hq => k.block q (h.lt q hq) (fun e => by subst e; exact hg hq))
theorem Keep.orG {F : Nat → Prop} {g : Nat} {w w' : World} (k : Keep (· = g) w w') : Keep (fun q => F q ∨ q = g) w w' := ⟨k.os, k.tape, k.output, k.size, fun q h1 h2 => k.block q h1 (fun e => h2 (Or.inr e))⟩
theorem Keep.orF {F : Nat → Prop} {g : Nat} {w w' : World} (k : Keep F w w') : Keep (fun q => F q ∨ q = g) w w' := ⟨k.os, k.tape, k.output, k.size, fun q h1 h2 => k.block q h1 (fun e => h2 (Or.inl e))⟩
theorem Dk.says_cases (s : Dk) : s.says = 0 ∨ s.says = 7 := by unfold Dk.says; split; exact Or.inl rfl; exact Or.inr rfl
set_option maxHeartbeats 8000000 in
theorem grow_any (F b s) (g : Nat) (r : Wr) (w : World) (h : StAt w F b s) (hr : WrAt w g b r) (hg : ¬ F g) (inv : WrInv s r) (hw : s.dk.wt.length ≤ 1000000) (hv : s.dk.wrote ≤ 1000000000000) :
    Calls Try.prog 40 #[.pointer (some ⟨g, 0, none⟩)] w fun e w' => e = .returned (.int .i64 (growF s r).1) ∧ WrTo F b g (growF s r).2.1 (growF s r).2.2 w w' := by
  have n2 := h.dok.n2
  have hfl : s.free.length ≤ 512 := by rw [inv.fr]; exact n2
  have TK := Lib.hid (take_any F b s w h hfl)
  have c0 := hr.cells.1
  have HR := Lib.hid hr; have HG := Lib.hid hg; have INV := Lib.hid inv; have H := Lib.hid h
  clear h hr hg inv hfl
  go_enter Try.func40, Try.ntmps40
  go_wp2_with fail
  refine TK.out.mono ?_
  rintro e w2 (⟨hf, rfl, hs, rfl⟩ | ⟨i, hf, rfl, hs, kp⟩)
  · have E : Hid (growF s r = (5, s, r)) := Lib.hid (by unfold growF; rw [hf])
    have HS := Lib.hid hs
    clear TK hf hs c0
    go_wp2
    go_ret
    rw [E.out]
    exact ⟨rfl, F, HS.out, HR.out, Keep.refl _ _, Sub.refl _ _, HG.out⟩
  · have LI := lowF_is hf
    have hi5 : i < s.dk.blk.length := by rw [← INV.out.fr]; exact LI.1
    have CT := cntT_set hf
    have HF := Lib.hid hf
    have GLT := HR.out.lt
    have W2 := Lib.hid (HR.out.same (kp.block g GLT HG.out))
    have K2 : Hid (Keep F w w2) := Lib.hid kp
    have HS := Lib.hid hs
    have hsz := kp.size
    obtain ⟨y0, y1, y3, y4, y5, y10⟩ := W2.out.cells
    have yz4 := W2.out.frozen 4
    have b0 := INV.out.b0; have b1 := INV.out.b1
    clear TK hf hs c0 kp LI
    obtain ⟨BL, hBL⟩ : ∃ BL : Int, r.file.blocks = BL := ⟨_, rfl⟩
    rw [hBL] at y5 b0 b1
    have HBE := Lib.hid hBL
    have bl1 : BL ≤ 512 := by omega
    have LF : Hid (leaf3 1 r.file.file BL).Ok := Lib.hid (leaf3_ok ⟨by decide, by decide⟩ HR.out.2.f.b ⟨by omega, by omega⟩)
    by_cases hb : BL = 0
    · have E : Hid (growF s r = (0, { s with free := s.free.set i false }, { r with file := { r.file with first := i, blocks := BL + 1 }, held := leaf3 1 r.file.file BL, at_ := i })) := Lib.hid (by unfold growF; rw [HF.out]; show (if r.file.blocks = 0 then _ else _) = _; rw [if_pos (by rw [HBE.out]; exact hb), hb]; rfl)
      have d0 : (BL == 0) = true := by rw [hb]; decide
      have HB := Lib.hid hb
      obtain ⟨RX, hRX⟩ : ∃ RX : Wr, RX = { r with file := { r.file with first := (i : Int) } } := ⟨_, rfl⟩
      have WX : Hid (WrAt (w2.setCell ⟨g, 4, none⟩ (.int .i64 (i : Int))) g b RX) := Lib.hid (by rw [hRX]; exact W2.out.first ⟨by omega, by omega⟩)
      have x3 : (w2.setCell ⟨g, 4, none⟩ (.int .i64 (i : Int))).cell? ⟨g, 3, none⟩ = some (.int .i64 r.file.file) := by have := WX.out.cells.2.2.1; rw [hRX] at this; exact this
      have x5 : (w2.setCell ⟨g, 4, none⟩ (.int .i64 (i : Int))).cell? ⟨g, 5, none⟩ = some (.int .i64 BL) := by have := WX.out.cells.2.2.2.2.1; rw [hRX] at this; rw [this]; show some (Value.int .i64 r.file.blocks) = _; rw [hBL]
      have HRX := Lib.hid hRX
      clear hb hBL hRX
      obtain ⟨W5, st, W5A, K5⟩ : ∃ W5, (storeCells ⟨g, 6, none⟩ (((Try.zeroCells91.toList.set 0 (.int .i64 1)).set 1 (.int .i64 r.file.file)).set 2 (.int .i64 BL))).run Try.prog (w2.setCell ⟨g, 4, none⟩ (.int .i64 (i : Int))).drew = .ok () W5 ∧ Hid (WrAt W5 g b { RX with held := leaf3 1 r.file.file BL }) ∧ Hid (Keep (· = g) (w2.setCell ⟨g, 4, none⟩ (.int .i64 (i : Int))) W5) := by
        have wx := WX.out.below (Below.refl _ _).drew
        rw [zc_three]
        obtain ⟨h1, h2, -⟩ := wx.setHeld LF.out
        exact ⟨_, storeH_run wx LF.out, Lib.hid h1, Lib.hid ((Keep.of_below (Below.refl _ _).drew).trans (Sub.refl _ _) h2)⟩
      have q : W5.cell? ⟨g, 3, none⟩ = some (.int .i64 r.file.file) ∧ W5.cell? ⟨g, 5, none⟩ = some (.int .i64 BL) := by
        have h1 := W5A.out.cells
        rw [HRX.out] at h1
        exact ⟨h1.2.2.1, by rw [h1.2.2.2.2.1]; show some (Value.int .i64 r.file.blocks) = _; rw [HBE.out]⟩
      have t127 := W5A.out.at_
      have z127 := W5A.out.frozen 127
      have z5 := W5A.out.frozen 5
      have W6 := Lib.hid (W5A.out.setAt (v := (i : Int)))
      have u5 : (W5.setCell ⟨g, 127, none⟩ (.int .i64 (i : Int))).cell? ⟨g, 5, none⟩ = some (.int .i64 BL) := by
        have h1 := W6.out.cells.2.2.2.2.1
        rw [HRX.out] at h1
        rw [h1]; show some (Value.int .i64 r.file.blocks) = _; rw [HBE.out]
      have W7 := Lib.hid (W6.out.blocks (v := BL + 1) ⟨by omega, by omega⟩)
      have KF : Hid (Keep (· = g) w2 ((W5.setCell ⟨g, 127, none⟩ (.int .i64 (i : Int))).setCell ⟨g, 5, none⟩ (.int .i64 (BL + 1)))) := Lib.hid (Keep.cellF (a := ⟨g, 5, none⟩) (Keep.cellF (a := ⟨g, 127, none⟩) ((Keep.cellF (a := ⟨g, 4, none⟩) (Keep.refl (· = g) w2) rfl _).trans (Sub.refl _ _) K5.out) rfl _) rfl _)
      go_wp2_with fail
      go_region_held_law (fun w' => w'.cell? ⟨g, 3, none⟩ = some (.int .i64 r.file.file) ∧ w'.cell? ⟨g, 5, none⟩ = some (.int .i64 BL)) (first | exact ⟨x3, x5⟩ | exact q) (fail)
      clear st q
      go_wp2
      go_ret
      rw [E.out]
      refine ⟨rfl, F, HS.out.other KF.out HG.out, ?_, K2.out.orF.trans (Sub.refl _ _) KF.out.orG, Sub.refl _ _, HG.out⟩
      have h7 := W7.out
      rw [HRX.out] at h7
      exact h7
    · have d0 : (BL == 0) = false := by rw [beq_eq_false_iff_ne]; exact hb
      have bpos : 0 < r.file.blocks := by rw [hBL]; omega
      obtain ⟨⟨a, ha, hal⟩, -⟩ := INV.out.h bpos
      have EB : Hid (growF s r = if s.dk.says = 0 then (0, { s with free := s.free.set i false, dk := s.dk.write a ({ r.held with next := i } : Lf).put }, { r with file := { r.file with blocks := r.file.blocks + 1 }, held := leaf3 1 r.file.file r.file.blocks, at_ := i }) else (s.dk.says, { s with free := s.free.set i false, dk := s.dk.write a ({ r.held with next := i } : Lf).put }, { r with held := { r.held with next := i } })) := Lib.hid (by
        unfold growF; rw [HF.out]; show (if r.file.blocks = 0 then _ else _) = _; rw [if_neg (by rw [HBE.out]; exact hb), ha]; rfl)
      have WW := Lib.hid (wwrite_any F b { s with free := s.free.set i false } g r (i : Int) a w2 HS.out W2.out HG.out ⟨by omega, by omega⟩ ha hal (INV.out.right bpos (by omega) (by omega)) hw hv)
      clear hb hBL ha hal bpos
      go_wp2_with fail
      refine WW.out.mono ?_
      rintro e w3 ⟨rfl, F1, hs3, hr3, k3, sb3, hg3⟩
      have HS3 := Lib.hid hs3; have HR3 := Lib.hid hr3; have K3 := Lib.hid k3; have SB3 := Lib.hid sb3; have HG3 := Lib.hid hg3
      clear WW hs3 hr3 k3 sb3 hg3
      rcases Dk.says_cases s.dk with hz | hz
      · have E : Hid (growF s r = (0, { s with free := s.free.set i false, dk := s.dk.write a ({ r.held with next := i } : Lf).put }, { r with file := { r.file with blocks := BL + 1 }, held := leaf3 1 r.file.file BL, at_ := i })) := Lib.hid (by rw [EB.out, if_pos hz, HBE.out])
        have hz2 : ({ s with free := s.free.set i false } : St).dk.says = 0 := hz
        rw [hz2]
        obtain ⟨RX, hRX⟩ : ∃ RX : Wr, RX = { r with held := { r.held with next := (i : Int) } } := ⟨_, rfl⟩
        have WX : Hid (WrAt w3 g b RX) := Lib.hid (by rw [hRX]; exact HR3.out)
        have x3 : w3.cell? ⟨g, 3, none⟩ = some (.int .i64 r.file.file) := HR3.out.cells.2.2.1
        have x5 : w3.cell? ⟨g, 5, none⟩ = some (.int .i64 BL) := by rw [← HBE.out]; exact HR3.out.cells.2.2.2.2.1
        have HRX := Lib.hid hRX
        clear hz hz2 EB hRX y0 y1 y3 y4 y5 y10 yz4
        obtain ⟨W5, st, W5A, K5⟩ : ∃ W5, (storeCells ⟨g, 6, none⟩ (((Try.zeroCells91.toList.set 0 (.int .i64 1)).set 1 (.int .i64 r.file.file)).set 2 (.int .i64 BL))).run Try.prog w3.drew = .ok () W5 ∧ Hid (WrAt W5 g b { RX with held := leaf3 1 r.file.file BL }) ∧ Hid (Keep (· = g) w3 W5) := by
          have wx := WX.out.below (Below.refl _ _).drew
          rw [zc_three]
          obtain ⟨h1, h2, -⟩ := wx.setHeld LF.out
          exact ⟨_, storeH_run wx LF.out, Lib.hid h1, Lib.hid ((Keep.of_below (Below.refl _ _).drew).trans (Sub.refl _ _) h2)⟩
        have q : W5.cell? ⟨g, 3, none⟩ = some (.int .i64 r.file.file) ∧ W5.cell? ⟨g, 5, none⟩ = some (.int .i64 BL) := by
          have h1 := W5A.out.cells
          rw [HRX.out] at h1
          exact ⟨h1.2.2.1, by rw [h1.2.2.2.2.1]; show some (Value.int .i64 r.file.blocks) = _; rw [HBE.out]⟩
        have t127 := W5A.out.at_
        have z127 := W5A.out.frozen 127
        have z5 := W5A.out.frozen 5
        have W6 := Lib.hid (W5A.out.setAt (v := (i : Int)))
        have u5 : (W5.setCell ⟨g, 127, none⟩ (.int .i64 (i : Int))).cell? ⟨g, 5, none⟩ = some (.int .i64 BL) := by
          have h1 := W6.out.cells.2.2.2.2.1
          rw [HRX.out] at h1
          rw [h1]; show some (Value.int .i64 r.file.blocks) = _; rw [HBE.out]
        have W7 := Lib.hid (W6.out.blocks (v := BL + 1) ⟨by omega, by omega⟩)
        have KF : Hid (Keep (· = g) w3 ((W5.setCell ⟨g, 127, none⟩ (.int .i64 (i : Int))).setCell ⟨g, 5, none⟩ (.int .i64 (BL + 1)))) := Lib.hid (Keep.cellF (a := ⟨g, 5, none⟩) (Keep.cellF (a := ⟨g, 127, none⟩) (K5.out) rfl _) rfl _)
        go_wp2_with fail
        go_region_held_law (fun w' => w'.cell? ⟨g, 3, none⟩ = some (.int .i64 r.file.file) ∧ w'.cell? ⟨g, 5, none⟩ = some (.int .i64 BL)) (first | exact ⟨x3, x5⟩ | exact q) (fail)
        clear st q
        go_wp2
        go_ret
        rw [E.out]
        refine ⟨rfl, F1, HS3.out.other KF.out HG3.out, ?_, (K2.out.orF.trans (Sub.refl _ _) K3.out).trans (Sub.refl _ _) KF.out.orG, fun q hq => ?_, HG3.out⟩
        · have h7 := W7.out
          rw [HRX.out] at h7
          exact h7
        · rcases SB3.out q hq with e | e
          · exact Or.inl e
          · exact Or.inr (by omega)
      · have E : Hid (growF s r = (7, { s with free := s.free.set i false, dk := s.dk.write a ({ r.held with next := i } : Lf).put }, { r with held := { r.held with next := i } })) := Lib.hid (by rw [EB.out, if_neg (by rw [hz]; decide), hz])
        have hz2 : ({ s with free := s.free.set i false } : St).dk.says = 7 := hz
        rw [hz2]
        clear hz hz2 EB y0 y1 y3 y4 y5 y10 yz4
        go_wp2
        go_ret
        rw [E.out]
        refine ⟨rfl, F1, HS3.out, HR3.out, K2.out.orF.trans (Sub.refl _ _) K3.out, fun q hq => ?_, HG3.out⟩
        rcases SB3.out q hq with e | e
        · exact Or.inl e
        · exact Or.inr (by omega)
end Go.Proofs.Ytilmicekpclmbaa
