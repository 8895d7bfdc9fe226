/-
  Store, maths alone: Open finds the catalog that was committed last.
  Store, maths alone: Format makes a store of the files that it is given.
  Store, maths alone: where there is room nothing is DiskFull.
  Store, maths alone: Format, where the disk has room for all.
-/
import Derived.Test.YtilmicekpclmbaaZG
namespace Go.Proofs.Ytilmicekpclmbaa
set_option linter.unusedVariables false
set_option linter.unusedSimpArgs false
set_option maxRecDepth 100000
open Go.RowKit

theorem slot_leaf {s : Dk} {i : Int} {c : Ct} (h : leafD s i = some c.leaf) (r : c.Right) : slC s i = c ∧ slK s i = true := by
  obtain ⟨h1, h2⟩ := ld_some h
  have hg := getCt_leaf r
  have g1 : gotC c.leaf = c := by unfold gotC; rw [hg]; rfl
  have g2 : gotK c.leaf = true := by unfold gotK; rw [hg]; rfl
  refine ⟨?_, ?_⟩
  · unfold slC; rw [h2, if_pos rfl, h1]; exact g1
  · unfold slK; rw [h2, h1, g2]; rfl
theorem slot_none {s : Dk} {i : Int} (h : leafD s i = none) : slK s i = false := by
  unfold slK; rw [(ld_none h).2]; rfl
structure OpenOk (dk : Dk) (d : Nat) (c : Ct) (i : Int) (fl : List (Fl × List (Int × List Int))) (s' : St) : Prop where
  disk : s'.dk = dk
  cat : s'.cat = c
  slot : s'.slot = i
  beg : s'.begun = 0
  loc : s'.loc = d
  fl_ : s'.free.length = dk.blk.length
  free : ∀ j : Nat, s'.free.getD j false = true ↔ (2 ≤ j ∧ j < dk.blk.length ∧ (j : Int) ∉ blks fl)
  has : Has dk s'.free fl
theorem open_made {dk : Dk} (d : Nat) (fr : dk.Free) (ok : dk.Ok) {free0 : List Bool} {c : Ct} {fl : List (Fl × List (Int × List Int))} (hr : c.Right) (hc : c.files = fl.map (·.1)) (h : Has dk free0 fl) {i : Nat} (hi : i ≤ 1) (hl : leafD dk i = some c.leaf) (ho : slK dk (1 - i) = true → (slC dk (1 - i)).gen < c.gen) :
    (openF dk d).1 = 0 ∧ OpenOk dk d c i fl (openF dk d).2 := by
  obtain ⟨c1, c2⟩ := slot_leaf hl hr
  have O2 : opL dk d 2 = ({ St.new dk d with cat := c, slot := (i : Int) }, true) := by
    have e2 : opL dk d 2 = opR 1 (opR 0 (St.new dk d, false)) := rfl
    rw [e2]
    have h01 : i = 0 ∨ i = 1 := by omega
    rcases h01 with rfl | rfl
    · have r0 : opR 0 (St.new dk d, false) = ({ St.new dk d with cat := c, slot := ((0 : Nat) : Int) }, true) := by
        have := opR_yes (k := 0) (p := (St.new dk d, false)) ⟨c2, Or.inl rfl⟩
        rw [this]
        show (({ St.new dk d with cat := slC dk ((0 : Nat) : Int), slot := ((0 : Nat) : Int) } : St), true) = _
        rw [c1]
      rw [r0]
      refine opR_no (fun q => ?_)
      obtain ⟨q1, q2⟩ := q
      rcases q2 with q2 | q2
      · cases q2
      · have q2 : c.gen < (slC dk ((1 : Nat) : Int)).gen := q2
        have := ho q1
        have e : ((1 : Int) - ((0 : Nat) : Int)) = ((1 : Nat) : Int) := rfl
        rw [e] at this
        omega
    · have key : ∀ p : St × Bool, p.1.dk = dk → (p.2 = false ∨ p.1.cat.gen < c.gen) → ({ p.1 with cat := c, slot := ((1 : Nat) : Int) } : St) = { St.new dk d with cat := c, slot := ((1 : Nat) : Int) } → opR 1 p = ({ St.new dk d with cat := c, slot := ((1 : Nat) : Int) }, true) := fun p h1 h2 h3 => by
        rw [opR_yes (k := 1) (p := p) ⟨by rw [h1]; exact c2, by rw [h1, c1]; exact h2⟩, h1, c1, h3]
      by_cases q : slK dk ((0 : Nat) : Int) = true
      · have r0 := opR_yes (k := 0) (p := (St.new dk d, false)) ⟨q, Or.inl rfl⟩
        rw [r0]
        exact key _ rfl (Or.inr (ho q)) rfl
      · have r0 := opR_no (k := 0) (p := (St.new dk d, false)) (fun e => q e.1)
        rw [r0]
        exact key _ rfl (Or.inl rfl) rfl
  obtain ⟨fr', e1, e2, e3⟩ := scan_ok fr.off fl (allF dk.blk.length) h.l h.n (fun a ha => ⟨by have := (h.r a ha).1; omega, (allF_at _ _).2 ⟨by have := (h.r a ha).1; omega, by have := h.lt ok a ha; have := (h.r a ha).1; omega⟩⟩)
  have SC : ({ St.new dk d with cat := c, slot := (i : Int) } : St).scanned = (0, fr') := by
    unfold St.scanned
    show scanR dk (allF dk.blk.length) c.files = _
    rw [hc]; exact e1
  have E : openF dk d = (0, { St.new dk d with cat := c, slot := (i : Int), free := fr' }) := by
    unfold openF
    rw [if_neg (by rw [fr.off]; decide), O2, if_neg (by show ¬ true = false; decide)]
    show (({ St.new dk d with cat := c, slot := (i : Int) } : St).scanned.1, ({ St.new dk d with cat := c, slot := (i : Int), free := if ({ St.new dk d with cat := c, slot := (i : Int) } : St).scanned.1 = 0 then ({ St.new dk d with cat := c, slot := (i : Int) } : St).scanned.2 else (St.new dk d).free } : St)) = _
    rw [SC]; rfl
  rw [E]
  have e3' : ∀ j : Nat, fr'.getD j false = true ↔ (2 ≤ j ∧ j < dk.blk.length ∧ (j : Int) ∉ blks fl) := fun j => by
    rw [e3, allF_at]
    exact ⟨fun ⟨⟨a, b⟩, c⟩ => ⟨a, b, c⟩, fun ⟨a, b, c⟩ => ⟨⟨a, b⟩, c⟩⟩
  refine ⟨rfl, rfl, rfl, rfl, rfl, rfl, by show fr'.length = _; rw [e2, allF_len], e3', ⟨h.l, h.n, fun a ha => ⟨(h.r a ha).1, ?_⟩⟩⟩
  cases q : fr'.getD a.toNat false
  · rfl
  · have := ((e3' _).1 q).2.2
    rw [Int.toNat_of_nonneg (by have := (h.r a ha).1; omega)] at this
    exact absurd ha this
end Go.Proofs.Ytilmicekpclmbaa
namespace Go.Proofs.Ytilmicekpclmbaa
set_option linter.unusedVariables false
set_option linter.unusedSimpArgs false
set_option maxRecDepth 100000
open Go.RowKit

theorem want_some {fs : Int → Option (List Int)} {k : Nat} {nm : Int} {bs : List Int} (h : fs nm = some bs) : want fs (k + 1) nm = (nm, bs) :: want fs k (nm + 1) := by show (match fs nm with | none => _ | some bs => _) = _; rw [h]
theorem want_none {fs : Int → Option (List Int)} {k : Nat} {nm : Int} (h : fs nm = none) : want fs (k + 1) nm = want fs k (nm + 1) := by show (match fs nm with | none => _ | some bs => _) = _; rw [h]
theorem want_range (fs : Int → Option (List Int)) : ∀ (k : Nat) (nm : Int) (x : Int × List Int), x ∈ want fs k nm → nm ≤ x.1 ∧ x.1 < nm + k ∧ fs x.1 = some x.2
  | 0, nm, x, h => absurd h (by simp [want])
  | k + 1, nm, x, h => by
    cases hn : fs nm with
    | none =>
      rw [want_none hn] at h
      obtain ⟨a, b, c⟩ := want_range fs k (nm + 1) x h
      exact ⟨by omega, by omega, c⟩
    | some bs =>
      rw [want_some hn] at h
      rcases List.mem_cons.1 h with h | h
      · subst h; exact ⟨Int.le_refl _, by omega, hn⟩
      · obtain ⟨a, b, c⟩ := want_range fs k (nm + 1) x h
        exact ⟨by omega, by omega, c⟩
theorem want_rise (fs : Int → Option (List Int)) : ∀ (k : Nat) (nm : Int), (want fs k nm).Pairwise (fun a b => a.1 < b.1)
  | 0, nm => List.Pairwise.nil
  | k + 1, nm => by
    cases hn : fs nm with
    | none => rw [want_none hn]; exact want_rise fs k (nm + 1)
    | some bs =>
      rw [want_some hn]
      exact List.Pairwise.cons (fun x hx => by have := (want_range fs k (nm + 1) x hx).1; show nm < x.1; omega) (want_rise fs k (nm + 1))
theorem lies_right {s : Dk} (ok : s.Ok) {f : Fl} {l : List (Int × List Int)} (h : Lies s f l) (h1 : 1 ≤ f.name ∧ f.name ≤ 255) (h2 : 1 ≤ f.file ∧ f.file ≤ 65535) (h3 : f.blocks ≤ 512) : f.Right := by
  have hn := h.n
  have hh := h.h
  refine ⟨h1, h2, ⟨by omega, h3⟩, ?_, ?_⟩
  · cases l with
    | nil => rw [hh]; exact ⟨by decide, by decide⟩
    | cons x r =>
      have a := h.c.1
      have b := h.c.lt ok x (by simp)
      have n2 := ok.n2
      have e : headA (x :: r) 0 = x.1 := rfl
      rw [hh, e]; exact ⟨by omega, by omega⟩
  · cases l with
    | nil => rw [hh, hn]; exact ⟨fun _ => rfl, fun _ => rfl⟩
    | cons x r =>
      have a := h.c.1
      have e : headA (x :: r) 0 = x.1 := rfl
      rw [hh, hn, e]
      constructor
      · intro q; simp at q; omega
      · intro q; omega
theorem told_len (fl : List (Fl × List (Int × List Int))) : (told fl).length = fl.length := by unfold told; simp
theorem right_of {s : Dk} (ok : s.Ok) {free : List Bool} {fl : List (Fl × List (Int × List Int))} {wn : List (Int × List Int)} (h : Has s free fl) (hw : told fl = wn) (hr : ∀ x, x ∈ fl → 1 ≤ x.1.file ∧ x.1.file ≤ 65535 ∧ x.1.blocks ≤ 512) (hn : ∀ x, x ∈ wn → 1 ≤ x.1 ∧ x.1 ≤ 255) (hp : wn.Pairwise (fun a b => a.1 < b.1)) (hl : wn.length ≤ 14) {g : Int} (hg : 0 ≤ g ∧ g ≤ 1000) : ({ Ct.zero with gen := g, files := fl.map (·.1) } : Ct).Right := by
  have hlen : fl.length = wn.length := by rw [← hw, told_len]
  have at_ : ∀ i (hi : i < fl.length), flAt (fl.map (·.1)) i = (fl[i]).1 := fun i hi => by
    unfold flAt; rw [List.getD_eq_getElem?_getD, List.getElem?_map, List.getElem?_eq_getElem hi]; rfl
  have nm : ∀ i (hi : i < fl.length) (hi' : i < wn.length), (fl[i]).1.name = (wn[i]).1 := fun i hi hi' => by
    have e : wn[i] = ((fl[i]).1.name, ((fl[i]).2.map (·.2)).flatten) := by
      have : (told fl)[i]? = some wn[i] := by rw [hw]; exact List.getElem?_eq_getElem hi'
      unfold told at this
      rw [List.getElem?_map, List.getElem?_eq_getElem hi] at this
      exact (Option.some.inj this).symm
    rw [e]
  refine ⟨hg, Ct.zero_right.s, Ct.zero_right.t, fun _ => rfl, Or.inl rfl, by show (fl.map (·.1)).length ≤ 14; rw [List.length_map]; omega, fun i hi => ?_, fun i hi => ?_⟩
  · have hi : i < (fl.map (·.1)).length := hi
    rw [List.length_map] at hi
    show (flAt (fl.map (·.1)) i).Right
    rw [at_ i hi]
    have m := List.getElem_mem hi
    have r := hr _ m
    exact lies_right ok (h.l _ m) (by rw [nm i hi (by omega)]; exact hn _ (List.getElem_mem _)) ⟨r.1, r.2.1⟩ r.2.2
  · have hi : i + 1 < (fl.map (·.1)).length := hi
    rw [List.length_map] at hi
    show (flAt (fl.map (·.1)) i).name < (flAt (fl.map (·.1)) (i + 1)).name
    rw [at_ i (by omega), at_ (i + 1) hi, nm i (by omega) (by omega), nm (i + 1) hi (by omega)]
    exact List.pairwise_iff_getElem.1 hp i (i + 1) (by omega) (by omega) (by omega)
/-- What Format makes, where all goes well. -/
structure FormOk (dk : Dk) (d : Nat) (fs : Int → Option (List Int)) (s' : St) (fl : List (Fl × List (Int × List Int))) : Prop where
  fr : s'.dk.Free
  ok : s'.dk.Ok
  len : s'.dk.blk.length = dk.blk.length
  wt : s'.dk.wt = []
  cat : s'.cat = { Ct.zero with gen := 1, files := fl.map (·.1) }
  right : s'.cat.Right
  slot : s'.slot = 0
  beg : s'.begun = 0
  loc : s'.loc = d
  told : told fl = want fs 255 1
  fl_ : s'.free.length = dk.blk.length
  free : ∀ j : Nat, s'.free.getD j false = true ↔ (2 ≤ j ∧ j < dk.blk.length ∧ (j : Int) ∉ blks fl)
  has : Has s'.dk s'.free fl
  here : leafD s'.dk 0 = some s'.cat.leaf
  other : leafD s'.dk 1 = none
  full : ∀ x, x ∈ fl → Full x.2
theorem format_made {dk : Dk} (d : Nat) (fr : dk.Free) (ok : dk.Ok) (h2 : 2 < dk.blk.length) (fs : Int → Option (List Int)) (hf : ∀ n bs, fs n = some bs → bs.length ≤ 1000 ∧ ∀ j, j < bs.length → U8 (bs.getD j 0)) (hsm : ∀ n, 20 < n → fs n = none) (hl : (want fs 255 1).length ≤ 14) :
    (formF dk d fs).1 = 5 ∨ ((formF dk d fs).1 = 0 ∧ ∃ fl, FormOk dk d fs (formF dk d fs).2 fl) := by
  obtain ⟨w1, w2, w3, w4, w5, w6⟩ := wipe_made fr ok (by omega)
  obtain ⟨DW, hDW⟩ : ∃ DW, (wipeF dk).2 = DW := ⟨_, rfl⟩
  rw [hDW] at w2 w3 w4 w5 w6
  have E1 : formF dk d fs = if (saveF fs 255 1 (St.bare DW d) []).1 ≠ 0 then ((saveF fs 255 1 (St.bare DW d) []).1, (saveF fs 255 1 (St.bare DW d) []).2.1) else (saveF fs 255 1 (St.bare DW d) []).2.1.commit { Ct.zero with files := (saveF fs 255 1 (St.bare DW d) []).2.2 } := by
    unfold formF
    rw [if_neg (by omega), if_neg (by rw [w1]; decide), hDW]
  have n2 := ok.n2
  have IN : StInv (St.bare DW d) := ⟨allF_len _, by show DW.blk.length ≤ 512; omega, ⟨by show (0 : Int) ≤ 0; decide, by show (0 : Int) ≤ 1000; decide⟩, ⟨by show (0 : Int) ≤ 0; decide, by show (0 : Int) ≤ 1000000; decide⟩⟩
  have KP := saveF_keeps fs hf 255 1 (St.bare DW d) [] IN (by show (0 : Int) + 255 ≤ 1000000; decide)
  have MD := saveF_made fs hf hsm 255 1 (St.bare DW d) [] IN w2 w3 (fun j hj => ((allF_at DW.blk.length j).1 hj).1) (Has.nil _ _) (by show (0 : Int) < 1; decide)
  simp only [List.map_nil] at MD
  obtain ⟨R, hR⟩ : ∃ R, saveF fs 255 1 (St.bare DW d) [] = R := ⟨_, rfl⟩
  rw [hR] at E1 KP MD
  obtain ⟨m1, m2, m3, m4, m5, m6, m7⟩ := MD
  obtain ⟨k1, k2, k3, k4, k5, -, -, -, -, -⟩ := KP
  rcases m4 with e | e
  · right
    obtain ⟨fl, P⟩ := m5 e
    have hPe : R.2.2 = fl.map (·.1) := P.e
    have hH : Has R.2.1.dk R.2.1.free fl := P.h
    rw [if_neg (by rw [e]; decide)] at E1
    have hgen : R.2.1.cat.gen + 1 = 1 := by rw [k1]; rfl
    have hsl : R.2.1.slot = 1 := k2
    have hRT : ({ Ct.zero with gen := 1, files := fl.map (·.1) } : Ct).Right := right_of m2 hH P.w P.r (fun x hx => by have := want_range fs 255 1 x hx; omega) (want_rise fs 255 1) hl ⟨by decide, by decide⟩
    have C := commit_made (c := { Ct.zero with files := R.2.2 }) m1 m2 (by rw [hsl]; decide) (by rw [k5]; show 2 ≤ DW.blk.length; omega) hH hPe (by
      show ({ Ct.zero with gen := R.2.1.cat.gen + 1, files := R.2.2 } : Ct).Right
      rw [hgen, hPe]; exact hRT)
    rw [E1]
    obtain ⟨c0, C⟩ := C
    have hcat : ((R.2.1.commit { Ct.zero with files := R.2.2 }).2).cat = { Ct.zero with gen := 1, files := fl.map (·.1) } := by
      rw [C.cat]
      show ({ Ct.zero with gen := R.2.1.cat.gen + 1, files := R.2.2 } : Ct) = _
      rw [hgen, hPe]
    have hbl : R.2.1.dk.blk.length = dk.blk.length := k5.trans w4
    refine ⟨c0, fl, C.fr, C.ok, C.len.trans hbl, C.wt, hcat, by rw [hcat]; exact hRT, by rw [C.slot, hsl]; rfl, C.beg, C.loc.trans k3, P.w, C.fl_.trans hbl, fun j => by rw [C.free, hbl], C.has, ?_, ?_, P.z⟩
    · rw [C.lf, if_pos (by rw [hsl]; rfl), C.cat]
    · rw [C.lf, if_neg (by rw [hsl]; decide), m7 1 (fun k hk => by
        cases q : (St.bare DW d).free.getD k false
        · rfl
        · have := (allF_at _ _).1 q; omega)]
      show leafD DW 1 = none
      rw [w6, if_pos (Or.inr rfl)]
  · left
    rw [E1, if_pos (by rw [e]; decide), e]
end Go.Proofs.Ytilmicekpclmbaa
namespace Go.Proofs.Ytilmicekpclmbaa
set_option linter.unusedVariables false
set_option linter.unusedSimpArgs false
set_option maxRecDepth 100000
open Go.RowKit

/-- The room that a writer still has in the block that it holds. -/
def roomR (r : Wr) : Int := if r.file.blocks = 0 then 0 else 116 - r.held.size
theorem lowF_cnt {l : List Bool} (h : lowF l = none) : (cntT l : Int) = 0 := by
  induction l with
  | nil => rfl
  | cons x r ih =>
    cases x with
    | true => cases h
    | false =>
      have h' : lowF r = none := by
        unfold lowF at h
        cases hr : lowF r with
        | none => rfl
        | some k => rw [hr] at h; cases h
      have := ih h'
      have e : (cntT (false :: r) : Int) = cntT r := by simp [cntT]
      rw [e]; exact this
theorem putF_room : ∀ (k : Nat) (s : St) (r : Wr) (bs : List Int), s.dk.Free → r.status = 0 → 0 ≤ r.file.blocks → (0 < r.file.blocks → 0 ≤ r.held.size ∧ r.held.size ≤ 116) → 2 * bs.length + (if needG r then 1 else 0) ≤ k → (bs.length : Int) ≤ roomR r + 116 * (cntT s.free : Int) →
    (putF k s r bs).2.status = 0 ∧ roomR (putF k s r bs).2 + 116 * (cntT (putF k s r bs).1.free : Int) = roomR r + 116 * (cntT s.free : Int) - bs.length ∧ roomR (putF k s r bs).2 ≤ 116 ∧ 0 ≤ roomR (putF k s r bs).2
  | 0, s, r, bs, fr, hs, hb, hz, hk, hr => by
    have : bs = [] := List.eq_nil_of_length_eq_zero (by omega)
    subst this
    refine ⟨hs, by show roomR r + 116 * (cntT s.free : Int) = _; simp, ?_, ?_⟩
    · show roomR r ≤ 116; unfold roomR; split
      · decide
      · have := hz (by omega); omega
    · show 0 ≤ roomR r; unfold roomR; split
      · decide
      · have := hz (by omega); omega
  | k + 1, s, r, bs, fr, hs, hb, hz, hk, hr => by
    by_cases h0 : bs = []
    · subst h0
      rw [putF_end (Or.inl rfl)]
      refine ⟨hs, by simp, ?_, ?_⟩
      · show roomR r ≤ 116; unfold roomR; split
        · decide
        · have := hz (by omega); omega
      · show 0 ≤ roomR r; unfold roomR; split
        · decide
        · have := hz (by omega); omega
    · have hne : ¬ (bs = [] ∨ r.status ≠ 0) := fun e => by rcases e with e | e; exact h0 e; exact e hs
      have hlen : 0 < bs.length := List.length_pos_iff.2 h0
      by_cases hg : needG r
      · rw [putF_grow hne hg]
        rw [if_pos hg] at hk
        have r0 : roomR r = 0 := by
          unfold roomR
          split
          · rfl
          · rcases hg with e | e
            · rename_i q; exact absurd e q
            · omega
        cases hf : lowF s.free with
        | none =>
          have := lowF_cnt hf
          omega
        | some i =>
          have ct := cntT_set hf
          by_cases hb0 : r.file.blocks = 0
          · rw [growF_first hf hb0]
            have ng : ¬ needG { r with file := { r.file with first := (i : Int), blocks := 1 }, held := leaf3 1 r.file.file 0, at_ := (i : Int), status := 0 } := fun e => by
              rcases e with e | e
              · exact absurd e (by show ¬ (1 : Int) = 0; decide)
              · exact absurd e (by show ¬ (0 : Int) = 116; decide)
            have rr : roomR { r with file := { r.file with first := (i : Int), blocks := 1 }, held := leaf3 1 r.file.file 0, at_ := (i : Int), status := 0 } = 116 := by
              unfold roomR; rw [if_neg (by show ¬ (1 : Int) = 0; decide)]; rfl
            have := putF_room k { s with free := s.free.set i false } { r with file := { r.file with first := (i : Int), blocks := 1 }, held := leaf3 1 r.file.file 0, at_ := (i : Int), status := 0 } bs fr rfl (by show (0 : Int) ≤ 1; decide) (fun _ => ⟨by show (0 : Int) ≤ 0; decide, by show (0 : Int) ≤ 116; decide⟩) (by rw [if_neg ng]; omega) (by rw [rr]; show (bs.length : Int) ≤ 116 + 116 * (cntT (s.free.set i false) : Int); omega)
            obtain ⟨a, b, c, d⟩ := this
            rw [rr] at b
            have b : _ = 116 + 116 * (cntT (s.free.set i false) : Int) - bs.length := b
            exact ⟨a, b.trans (by rw [r0]; omega), c, d⟩
          · rw [growF_more hf hb0 (Dk.says_goes fr.goes)]
            have ng : ¬ needG { r with file := { r.file with blocks := r.file.blocks + 1 }, held := leaf3 1 r.file.file r.file.blocks, at_ := (i : Int), status := 0 } := fun e => by
              rcases e with e | e
              · have e : r.file.blocks + 1 = 0 := e; omega
              · exact absurd e (by show ¬ (0 : Int) = 116; decide)
            have rr : roomR { r with file := { r.file with blocks := r.file.blocks + 1 }, held := leaf3 1 r.file.file r.file.blocks, at_ := (i : Int), status := 0 } = 116 := by
              unfold roomR; rw [if_neg (by show ¬ r.file.blocks + 1 = 0; omega)]; rfl
            have := putF_room k { s with free := s.free.set i false, dk := s.dk.write r.at_.toNat ({ r.held with next := (i : Int) } : Lf).put } { r with file := { r.file with blocks := r.file.blocks + 1 }, held := leaf3 1 r.file.file r.file.blocks, at_ := (i : Int), status := 0 } bs (fr.write' _ _) rfl (by show 0 ≤ r.file.blocks + 1; omega) (fun _ => ⟨by show (0 : Int) ≤ 0; decide, by show (0 : Int) ≤ 116; decide⟩) (by rw [if_neg ng]; omega) (by rw [rr]; show (bs.length : Int) ≤ 116 + 116 * (cntT (s.free.set i false) : Int); omega)
            obtain ⟨a, b, c, d⟩ := this
            rw [rr] at b
            have b : _ = 116 + 116 * (cntT (s.free.set i false) : Int) - bs.length := b
            exact ⟨a, b.trans (by rw [r0]; omega), c, d⟩
      · rw [putF_fill hne hg]
        rw [if_neg hg] at hk
        have hb0 : r.file.blocks ≠ 0 := fun e => hg (Or.inl e)
        have hn116 : r.held.size ≠ 116 := fun e => hg (Or.inr e)
        obtain ⟨s0, s1⟩ := hz (by omega)
        have hl : (bs.take (116 - r.held.size.toNat)).length ≤ 116 - r.held.size.toNat := by rw [List.length_take]; omega
        have hl2 : (bs.take (116 - r.held.size.toNat)).length + (bs.drop (116 - r.held.size.toNat)).length = bs.length := by rw [← List.length_append, List.take_append_drop]
        have hl3 : 0 < (bs.take (116 - r.held.size.toNat)).length := by rw [List.length_take]; omega
        have rr : roomR { r with held := fillL r.held (bs.take (116 - r.held.size.toNat)) } = roomR r - (bs.take (116 - r.held.size.toNat)).length := by
          unfold roomR
          rw [if_neg hb0, if_neg (by exact hb0)]
          show 116 - (r.held.size + ((bs.take (116 - r.held.size.toNat)).length : Int)) = _
          omega
        have := putF_room k s { r with held := fillL r.held (bs.take (116 - r.held.size.toNat)) } (bs.drop (116 - r.held.size.toNat)) fr hs hb (fun _ => ⟨by show 0 ≤ r.held.size + ((bs.take (116 - r.held.size.toNat)).length : Int); omega, by show r.held.size + ((bs.take (116 - r.held.size.toNat)).length : Int) ≤ 116; omega⟩) (by
          have : (if needG { r with held := fillL r.held (bs.take (116 - r.held.size.toNat)) } then 1 else 0) ≤ 1 := by split <;> omega
          omega) (by rw [rr]; omega)
        obtain ⟨a, b, c, d⟩ := this
        refine ⟨a, ?_, c, d⟩
        rw [b, rr]; omega
theorem makeF_room {s : St} (i : StInv s) (fr : s.dk.Free) (nm : Int) (bs : List Int) (hb : s.begun + 1 < 64) (hu : ∀ j, j < bs.length → U8 (bs.getD j 0)) (hr : (bs.length : Int) ≤ 116 * (cntT s.free : Int)) :
    (makeF s nm bs).1.2 = 0 ∧ 116 * (cntT s.free : Int) - bs.length - 116 ≤ 116 * (cntT (makeF s nm bs).2.free : Int) := by
  have hnw : s.newWr nm = ⟨0, ⟨nm, 64 * (s.cat.gen + 1) + (s.begun + 1), 0, 0⟩, Lf.zero, 0⟩ := by unfold St.newWr; rw [if_neg (by omega)]
  have r0 : roomR (s.newWr nm) = 0 := by rw [hnw]; rfl
  have R := putF_room (2 * bs.length + 1) { s with begun := s.begun + 1 } (s.newWr nm) bs fr (by rw [hnw]) (by rw [hnw]; show (0 : Int) ≤ 0; decide) (fun e => by rw [hnw] at e; exact absurd e (by show ¬ (0 : Int) < 0; decide)) (by split <;> omega) (by rw [r0]; show (bs.length : Int) ≤ 0 + 116 * (cntT s.free : Int); omega)
  obtain ⟨a, b, c, d⟩ := R
  rw [r0] at b
  have b : roomR (putF (2 * bs.length + 1) { s with begun := s.begun + 1 } (s.newWr nm) bs).2 + 116 * (cntT (putF (2 * bs.length + 1) { s with begun := s.begun + 1 } (s.newWr nm) bs).1.free : Int) = 0 + 116 * (cntT s.free : Int) - bs.length := b
  obtain ⟨w1, w2⟩ := newWr_inv i nm
  unfold makeF
  obtain ⟨p, hp⟩ : ∃ p, putF (2 * bs.length + 1) { s with begun := s.begun + 1 } (s.newWr nm) bs = p := ⟨_, rfl⟩
  rw [hp] at a b c d ⊢
  have fre : (closeF p.1 p.2).2.1.free = p.1.free := (closeF_same p.1 p.2).2.2.2.2.1
  refine ⟨?_, ?_⟩
  · show (closeF p.1 p.2).1.2 = 0
    have pfr : p.1.dk.Free := by
      have h : ∀ (k : Nat) (s : St) (r : Wr) (bs : List Int), s.dk.Free → (putF k s r bs).1.dk.Free := fun k => by
        induction k with
        | zero => intro s r bs h; exact h
        | succ k ih =>
          intro s r bs h
          by_cases h0 : bs = [] ∨ r.status ≠ 0
          · rw [putF_end h0]; exact h
          · by_cases hg : needG r
            · rw [putF_grow h0 hg]
              refine ih _ _ _ ?_
              unfold growF
              split
              · exact h
              · split
                · exact h
                · split
                  · exact h.write' _ _
                  · exact h.write' _ _
            · rw [putF_fill h0 hg]; exact ih _ _ _ h
      rw [← hp]; exact h _ _ _ _ fr
    unfold closeF
    rw [if_pos a]
    split
    · exact Dk.says_goes pfr.goes
    · rfl
  · show _ ≤ 116 * (cntT (closeF p.1 p.2).2.1.free : Int)
    rw [fre]; omega
/-- What the files that are wanted cost at most. -/
def cost (l : List (Int × List Int)) : Int := match l with | [] => 0 | x :: r => x.2.length + 116 + cost r
theorem cost_nn : ∀ l : List (Int × List Int), 0 ≤ cost l
  | [] => by decide
  | x :: r => by have := cost_nn r; show 0 ≤ (x.2.length : Int) + 116 + cost r; omega
theorem saveF_room (fs : Int → Option (List Int)) (hf : ∀ n bs, fs n = some bs → bs.length ≤ 1000 ∧ ∀ j, j < bs.length → U8 (bs.getD j 0)) (hsm : ∀ n, 20 < n → fs n = none) : ∀ (k : Nat) (nm : Int) (s : St) (sv : List Fl), StInv s → s.dk.Free → s.dk.Ok → FreeOk s.free → s.begun < nm → cost (want fs k nm) ≤ 116 * (cntT s.free : Int) → (saveF fs k nm s sv).1 = 0
  | 0, nm, s, sv, i, fr, ok, fo, hb, hc => rfl
  | k + 1, nm, s, sv, i, fr, ok, fo, hb, hc => by
    cases hn : fs nm with
    | none =>
      rw [saveF_none hn]
      rw [want_none hn] at hc
      exact saveF_room fs hf hsm k (nm + 1) s sv i fr ok fo (by omega) hc
    | some bs =>
      obtain ⟨h1, h2⟩ := hf nm bs hn
      have hnm : nm ≤ 20 := by
        rcases Int.lt_or_le 20 nm with e | e
        · rw [hsm nm e] at hn; cases hn
        · exact e
      rw [want_some hn] at hc
      have hc : (bs.length : Int) + 116 + cost (want fs k (nm + 1)) ≤ 116 * (cntT s.free : Int) := hc
      have hnn := cost_nn (want fs k (nm + 1))
      obtain ⟨a, b⟩ := makeF_room i fr nm bs (by omega) h2 (by omega)
      have M := makeF_ok i fr ok fo nm bs h2 (by omega)
      obtain ⟨m1, m2, m3, m4, m5, m6, m7, m8⟩ := makeF_keeps i nm h2
      have i1 := i.fr; have i2 := i.b2; have i3 := i.g; have i4 := i.bg
      rw [saveF_ok hn a]
      exact saveF_room fs hf hsm k (nm + 1) _ _ ⟨by omega, by omega, by rw [m1]; exact i3, by omega⟩ M.fr M.ok M.fo (by omega) (by omega)
end Go.Proofs.Ytilmicekpclmbaa
namespace Go.Proofs.Ytilmicekpclmbaa
set_option linter.unusedVariables false
set_option linter.unusedSimpArgs false
set_option maxRecDepth 100000
open Go.RowKit

theorem allF_cnt : ∀ n : Nat, cntT (allF n) = n - 2
  | 0 => rfl
  | n + 1 => by
    have e : allF (n + 1) = allF n ++ [decide (2 ≤ n)] := by unfold allF; rw [List.range_succ, List.map_append]; rfl
    rw [e, cntT_snoc, allF_cnt n]
    by_cases h : 2 ≤ n
    · rw [if_pos (by simpa using h)]; omega
    · rw [if_neg (by simpa using h)]; omega
theorem format_room {dk : Dk} (d : Nat) (fr : dk.Free) (ok : dk.Ok) (h2 : 2 < dk.blk.length) (fs : Int → Option (List Int)) (hf : ∀ n bs, fs n = some bs → bs.length ≤ 1000 ∧ ∀ j, j < bs.length → U8 (bs.getD j 0)) (hsm : ∀ n, 20 < n → fs n = none) (hl : (want fs 255 1).length ≤ 14) (hc : cost (want fs 255 1) ≤ 116 * ((dk.blk.length : Int) - 2)) :
    (formF dk d fs).1 = 0 ∧ ∃ fl, FormOk dk d fs (formF dk d fs).2 fl := by
  rcases format_made d fr ok h2 fs hf hsm hl with h | h
  · exfalso
    obtain ⟨w1, w2, w3, w4, w5, w6⟩ := wipe_made fr ok (by omega)
    have n2 := ok.n2
    have IN : StInv (St.bare (wipeF dk).2 d) := ⟨allF_len _, by show (wipeF dk).2.blk.length ≤ 512; omega, ⟨by show (0 : Int) ≤ 0; decide, by show (0 : Int) ≤ 1000; decide⟩, ⟨by show (0 : Int) ≤ 0; decide, by show (0 : Int) ≤ 1000000; decide⟩⟩
    have S0 := saveF_room fs hf hsm 255 1 (St.bare (wipeF dk).2 d) [] IN w2 w3 (fun j hj => ((allF_at (wipeF dk).2.blk.length j).1 hj).1) (by show (0 : Int) < 1; decide) (by
      show cost (want fs 255 1) ≤ 116 * (cntT (allF (wipeF dk).2.blk.length) : Int)
      rw [allF_cnt, w4]; omega)
    have E : (formF dk d fs).1 = ((saveF fs 255 1 (St.bare (wipeF dk).2 d) []).2.1.commit { Ct.zero with files := (saveF fs 255 1 (St.bare (wipeF dk).2 d) []).2.2 }).1 := by
      unfold formF
      rw [if_neg (by omega), if_neg (by rw [w1]; decide), if_neg (by rw [S0]; decide)]
    rw [E] at h
    have C : ∀ (s : St) (c : Ct), (s.commit c).1 = 0 ∨ (s.commit c).1 = 1 ∨ (s.commit c).1 = 6 ∨ (s.commit c).1 = 7 := fun s c => by
      unfold St.commit
      split
      · exact Or.inr (Or.inl rfl)
      · split
        · rcases Dk.says_cases s.dk with q | q
          · exact Or.inl q
          · exact Or.inr (Or.inr (Or.inr q))
        · split
          · rcases Dk.says_cases s.dk.flush with q | q
            · exact Or.inl q
            · exact Or.inr (Or.inr (Or.inr q))
          · split
            · rcases Dk.says_cases (s.dk.flush.write (1 - s.slot).toNat ({ c with gen := s.cat.gen + 1 } : Ct).putL.put) with q | q
              · exact Or.inl q
              · exact Or.inr (Or.inr (Or.inr q))
            · have SR : ∀ (dk : Dk) (fl : List Fl) (fr : List Bool), (scanR dk fr fl).1 = 0 ∨ (scanR dk fr fl).1 = 6 ∨ (scanR dk fr fl).1 = 7 := fun dk fl => by
                induction fl with
                | nil => intro fr; exact Or.inl rfl
                | cons f r ih =>
                  intro fr
                  unfold scanR
                  split
                  · rename_i q
                    rcases chainS_cases dk f with e | e | e
                    · exact absurd e q
                    · exact Or.inr (Or.inl e)
                    · exact Or.inr (Or.inr e)
                  · split
                    · exact Or.inr (Or.inl rfl)
                    · exact ih _
              rcases SR (s.dk.flush.write (1 - s.slot).toNat ({ c with gen := s.cat.gen + 1 } : Ct).putL.put).flush ({ c with gen := s.cat.gen + 1 } : Ct).files (allF (s.dk.flush.write (1 - s.slot).toNat ({ c with gen := s.cat.gen + 1 } : Ct).putL.put).flush.blk.length) with e | e | e
              · exact Or.inl e
              · exact Or.inr (Or.inr (Or.inl e))
              · exact Or.inr (Or.inr (Or.inr e))
    rcases C _ _ with q | q | q | q <;> rw [q] at h <;> cases h
  · exact h
end Go.Proofs.Ytilmicekpclmbaa
