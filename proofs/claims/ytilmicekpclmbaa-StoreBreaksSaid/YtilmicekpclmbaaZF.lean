/-
  Store, maths alone: what a writer carries, on a disk that no crash threatens.
  Store, maths alone: a file that was made lies in the store.
  Store, maths alone: the files that a store has, apart from each other; what a scan finds.
-/
import Derived.Test.YtilmicekpclmbaaZz
import Derived.Test.YtilmicekpclmbaaZE
namespace Go.Proofs.Ytilmicekpclmbaa
set_option linter.unusedVariables false
set_option linter.unusedSimpArgs false
set_option maxRecDepth 100000
open Go.RowKit

/-- What a writer has made so far: whole blocks, the one that is held, all bytes. -/
structure WC (F0 : List Bool) (s : St) (r : Wr) (l : List (Int × List Int)) (done : List Int) : Prop where
  n : r.file.blocks = l.length + 1
  c : Ch s.dk r.file.file 0 l r.at_
  f : r.file.first = headA l r.at_
  a : 2 ≤ r.at_ ∧ r.at_ < s.free.length
  t : s.free.getD r.at_.toNat false = false ∧ ∀ x, x ∈ l → 0 ≤ x.1 ∧ s.free.getD x.1.toNat false = false ∧ x.1 ≠ r.at_
  nd : (l.map (·.1)).Nodup
  d : done = (l.map (·.2)).flatten ++ r.held.load.take r.held.size.toNat
  o : (∀ x, x ∈ l → F0.getD x.1.toNat false = true) ∧ F0.getD r.at_.toNat false = true
  fu : ∀ x, x ∈ l → x.2.length = 116
def WSo (F0 : List Bool) (s : St) (r : Wr) (l : List (Int × List Int)) (done : List Int) : Prop := (r.file.blocks = 0 ∧ l = [] ∧ done = [] ∧ r.file.first = 0) ∨ (0 < r.file.blocks ∧ WC F0 s r l done)
/-- Blocks that are the catalog's are never free. -/
def FreeOk (l : List Bool) : Prop := ∀ i, l.getD i false = true → 2 ≤ i
theorem FreeOk.set {l : List Bool} (h : FreeOk l) (i : Nat) : FreeOk (l.set i false) := fun j hj => by
  refine h j ?_
  rw [getD_setB] at hj
  split at hj
  · cases hj
  · exact hj
theorem lowF_true {l : List Bool} {i : Nat} (h : lowF l = some i) : l.getD i false = true := by
  exact (lowF_is h).2
theorem splice_take (L : List Int) (o : Nat) (cs : List Int) (h : o + cs.length ≤ L.length) : (splice L o cs).take (o + cs.length) = L.take o ++ cs := by
  unfold splice
  rw [← List.append_assoc, List.take_append_of_le_length (by rw [List.length_append, List.length_take]; omega), List.take_of_length_le (by rw [List.length_append, List.length_take]; omega)]
theorem growF_none {s : St} {r : Wr} (h : lowF s.free = none) : growF s r = (5, s, r) := by unfold growF; rw [h]
theorem growF_first {s : St} {r : Wr} {i : Nat} (h : lowF s.free = some i) (hb : r.file.blocks = 0) : growF s r = (0, { s with free := s.free.set i false }, { r with file := { r.file with first := i, blocks := 1 }, held := leaf3 1 r.file.file 0, at_ := i }) := by unfold growF; rw [h]; exact if_pos hb
theorem growF_more {s : St} {r : Wr} {i : Nat} (h : lowF s.free = some i) (hb : ¬ r.file.blocks = 0) (hs : s.dk.says = 0) : growF s r = (0, { s with free := s.free.set i false, dk := s.dk.write r.at_.toNat ({ r.held with next := i } : Lf).put }, { r with file := { r.file with blocks := r.file.blocks + 1 }, held := leaf3 1 r.file.file r.file.blocks, at_ := i }) := by
  unfold growF
  rw [h]
  show (if r.file.blocks = 0 then _ else _) = _
  rw [if_neg hb]
  exact if_pos hs
theorem set_false {l : List Bool} {i j : Nat} (h : l.getD j false = false) : (l.set i false).getD j false = false := by
  rw [getD_setB]
  split
  · rfl
  · exact h
/-- One block more. -/
theorem growF_wc {F0 : List Bool} {s : St} {r : Wr} {l : List (Int × List Int)} {done : List Int} (fr : s.dk.Free) (ok : s.dk.Ok) (inv : WrInv s r) (ho : r.held.Ok) (fo : FreeOk s.free) (le : ∀ j, s.free.getD j false = true → F0.getD j false = true) (h : WSo F0 s r l done) (hg : needG r) {i : Nat} (hf : lowF s.free = some i) :
    (growF s r).1 = 0 ∧ (∃ l', WC F0 (growF s r).2.1 (growF s r).2.2 l' done) ∧ (growF s r).2.1.dk.Free ∧ (growF s r).2.1.dk.Ok ∧ (growF s r).2.1.free = s.free.set i false ∧ (∀ j : Int, (0 < r.file.blocks → j ≠ r.at_) → leafD (growF s r).2.1.dk j = leafD s.dk j) ∧ (growF s r).2.2.at_ = (i : Int) := by
  have hi := lowF_is hf
  have hi2 := fo i hi.2
  have hff := inv.f
  by_cases hb : r.file.blocks = 0
  · rw [growF_first hf hb]
    refine ⟨rfl, ⟨[], ?_⟩, fr, ok, rfl, fun j _ => rfl, rfl⟩
    rcases h with ⟨_, hl, hd, _⟩ | ⟨h, _⟩
    · subst hl hd
      refine ⟨rfl, trivial, rfl, ⟨by show (2 : Int) ≤ (i : Int); omega, by show (i : Int) < ((s.free.set i false).length : Int); rw [List.length_set]; omega⟩, ⟨?_, fun x hx => absurd hx (by simp)⟩, by simp, ?_, ⟨fun x hx => absurd hx (by simp), by show F0.getD ((i : Int).toNat) false = true; rw [Int.toNat_natCast]; exact le i hi.2⟩, fun x hx => absurd hx (by simp)⟩
      · show (s.free.set i false).getD ((i : Int).toNat) false = false
        rw [Int.toNat_natCast, getD_setB, if_pos ⟨rfl, hi.1⟩]
      · show [] = ([] : List Int) ++ (zeros 116).take ((0 : Int).toNat)
        rfl
    · omega
  · rcases h with ⟨h, _⟩ | ⟨hbp, wc⟩
    · exact absurd h hb
    have hsz : r.held.size = 116 := by rcases hg with e | e; exact absurd e hb; exact e
    obtain ⟨⟨a, ha, hal⟩, hk, hfl, hpl, -, -⟩ := inv.h hbp
    have hn : ({ r.held with next := (i : Int) } : Lf).Ok := ⟨ho.k, ho.f, ho.p, ⟨by show _ ≤ (i : Int); omega, by show (i : Int) ≤ _; have := inv.fr; have := ok.n2; omega⟩, ho.s, ho.l, ho.u⟩
    have hR : ({ r.held with next := (i : Int) } : Lf).Right := inv.right hbp (by omega) (by have := inv.fr; have := ok.n2; omega)
    rw [growF_more hf hb (Dk.says_goes fr.goes), ha, Int.toNat_natCast]
    have LW : ∀ j : Int, leafD (s.dk.write a ({ r.held with next := (i : Int) } : Lf).put) j = if j = (a : Int) then some ({ r.held with next := (i : Int) } : Lf) else leafD s.dk j := leafD_write fr hal hn hR
    have hia : i ≠ a := fun e => by
      have h1 := wc.t.1
      rw [ha, Int.toNat_natCast] at h1
      rw [← e, hi.2] at h1; cases h1
    refine ⟨rfl, ⟨l ++ [(r.at_, r.held.load)], ?_⟩, fr.write' _ _, ok.write a _ hal ⟨Lf.put_len hn, Lf.put_u8 hn hR⟩, rfl, fun j hj => (by have := hj hbp; rw [LW, if_neg this]), rfl⟩
    refine ⟨?_, ?_, ?_, ⟨by show (2 : Int) ≤ (i : Int); omega, by show (i : Int) < ((s.free.set i false).length : Int); rw [List.length_set]; omega⟩, ⟨?_, ?_⟩, ?_, ?_, ⟨fun x hx => ?_, by show F0.getD ((i : Int).toNat) false = true; rw [Int.toNat_natCast]; exact le i hi.2⟩, fun x hx => (by
      rcases List.mem_append.1 hx with hx | hx
      · exact wc.fu x hx
      · simp at hx
        subst hx
        exact ho.l)⟩
    · show r.file.blocks + 1 = ((l ++ [(r.at_, r.held.load)]).length : Int) + 1
      rw [wc.n]; simp
    · refine Ch.snoc (x := (r.at_, r.held.load)) ?_ wc.a.1 ⟨{ r.held with next := (i : Int) }, by rw [LW, ha, if_pos rfl], hk, hfl, ?_, ?_, rfl⟩
      · exact wc.c.keep (fun x hx => by rw [LW, if_neg (by rw [← ha]; exact (wc.t.2 x hx).2.2)])
      · show r.held.place = 0 + (l.length : Int)
        rw [hpl, wc.n]; omega
      · show r.held.load.take r.held.size.toNat = r.held.load
        rw [hsz]; exact List.take_of_length_le (by have := ho.l; omega)
    · show r.file.first = headA (l ++ [(r.at_, r.held.load)]) (i : Int)
      rw [headA_snoc]; exact wc.f
    · show (s.free.set i false).getD ((i : Int).toNat) false = false
      rw [Int.toNat_natCast, getD_setB, if_pos ⟨rfl, hi.1⟩]
    · intro x hx
      rcases List.mem_append.1 hx with hx | hx
      · obtain ⟨x0, x1, x2⟩ := wc.t.2 x hx
        refine ⟨x0, set_false x1, fun e => ?_⟩
        have e : x.1 = (i : Int) := e
        rw [e, Int.toNat_natCast, hi.2] at x1; cases x1
      · simp at hx
        subst hx
        refine ⟨by have := wc.a.1; show 0 ≤ r.at_; omega, set_false wc.t.1, fun e => ?_⟩
        have e : r.at_ = (i : Int) := e
        omega
    · rw [List.map_append, List.nodup_append]
      refine ⟨wc.nd, by simp, fun y hy z hz e => ?_⟩
      simp at hz
      obtain ⟨x, hx, rfl⟩ := List.mem_map.1 hy
      exact (wc.t.2 x hx).2.2 (e.trans hz)
    · show done = ((l ++ [(r.at_, r.held.load)]).map (·.2)).flatten ++ (zeros 116).take ((0 : Int).toNat)
      rw [wc.d, hsz, List.take_of_length_le (by have := ho.l; omega)]
      simp
    · rcases List.mem_append.1 hx with hx | hx
      · exact wc.o.1 x hx
      · simp at hx
        subst hx
        exact wc.o.2
/-- Some bytes more in the block that is held. -/
theorem fill_wc {F0 : List Bool} {s : St} {r : Wr} {l : List (Int × List Int)} {done cs : List Int} (inv : WrInv s r) (ho : r.held.Ok) (h : WC F0 s r l done) (hl : r.held.size + cs.length ≤ 116) (h0 : 0 ≤ r.held.size) : WC F0 s { r with held := fillL r.held cs } l (done ++ cs) := by
  refine ⟨h.n, h.c, h.f, h.a, h.t, h.nd, ?_, h.o, h.fu⟩
  show done ++ cs = (l.map (·.2)).flatten ++ (splice r.held.load r.held.size.toNat cs).take (r.held.size + (cs.length : Int)).toNat
  have e : (r.held.size + (cs.length : Int)).toNat = r.held.size.toNat + cs.length := by omega
  rw [e, splice_take _ _ _ (by have := ho.l; omega), h.d, List.append_assoc]
/-- What Put makes: where there is room all bytes are in; where there is none it says so. -/
structure PutOk (F0 : List Bool) (s s' : St) (r r' : Wr) (done : List Int) : Prop where
  fr : s'.dk.Free
  ok : s'.dk.Ok
  fo : FreeOk s'.free
  st : r'.status = 0 ∨ r'.status = 5
  wc : r'.status = 0 → ∃ l, WSo F0 s' r' l done
  le : ∀ j, s'.free.getD j false = true → s.free.getD j false = true
  lf : ∀ j : Int, (∀ k : Nat, j = k → s.free.getD k false = false) → (0 < r.file.blocks → j ≠ r.at_) → leafD s'.dk j = leafD s.dk j
theorem putF_wc (F0 : List Bool) : ∀ (k : Nat) (s : St) (r : Wr) (bs : List Int) (l : List (Int × List Int)) (done : List Int), s.dk.Free → s.dk.Ok → WrInv s r → r.held.Ok → FreeOk s.free → (∀ j, s.free.getD j false = true → F0.getD j false = true) → (∀ j, j < bs.length → U8 (bs.getD j 0)) → r.status = 0 → WSo F0 s r l done → 2 * bs.length + (if needG r then 1 else 0) ≤ k →
    PutOk F0 s (putF k s r bs).1 r (putF k s r bs).2 (done ++ bs)
  | 0, s, r, bs, l, done, fr, ok, inv, ho, fo, le, hu, hs, h, hk => by
    have : bs = [] := List.eq_nil_of_length_eq_zero (by omega)
    subst this
    exact ⟨fr, ok, fo, Or.inl hs, fun _ => ⟨l, by rw [List.append_nil]; exact h⟩, fun _ h => h, fun _ _ _ => rfl⟩
  | k + 1, s, r, bs, l, done, fr, ok, inv, ho, fo, le, hu, hs, h, hk => by
    by_cases h0 : bs = []
    · subst h0
      rw [putF_end (Or.inl rfl)]
      exact ⟨fr, ok, fo, Or.inl hs, fun _ => ⟨l, by rw [List.append_nil]; exact h⟩, fun _ h => h, fun _ _ _ => rfl⟩
    · have hne : ¬ (bs = [] ∨ r.status ≠ 0) := fun e => by rcases e with e | e; exact h0 e; exact e hs
      have hlen : 0 < bs.length := List.length_pos_iff.2 h0
      by_cases hg : needG r
      · rw [putF_grow hne hg]
        rw [if_pos hg] at hk
        cases hf : lowF s.free with
        | none =>
          rw [growF_none hf, putF_end (Or.inr (by show (5 : Int) ≠ 0; decide))]
          exact ⟨fr, ok, fo, Or.inr rfl, fun e => (by have e : (5 : Int) = 0 := e; cases e), fun _ h => h, fun _ _ _ => rfl⟩
        | some i =>
          have hi := lowF_is hf
          obtain ⟨g1, ⟨l', g2⟩, g3, g4, g5, g6, g7⟩ := growF_wc fr ok inv ho fo le h hg hf
          have gi := growF_inv inv
          have gh := growF_held inv ho (by have := inv.fr; have := ok.n2; omega)
          have gd := growF_done s r inv g1
          have R := putF_wc F0 k (growF s r).2.1 { (growF s r).2.2 with status := (growF s r).1 } bs l' done g3 g4 (gi.status _) gh (by rw [g5]; exact fo.set i) (fun j hj => le j (by
            rw [g5, getD_setB] at hj
            split at hj
            · cases hj
            · exact hj)) hu g1 (Or.inr ⟨by show 0 < (growF s r).2.2.file.blocks; rw [g2.n]; omega, ⟨g2.n, g2.c, g2.f, g2.a, g2.t, g2.nd, g2.d, g2.o, g2.fu⟩⟩) (by rw [if_neg gd]; omega)
          refine ⟨R.fr, R.ok, R.fo, R.st, R.wc, fun j hj => ?_, fun j hj hja => ?_⟩
          · have := R.le j hj
            rw [g5, getD_setB] at this
            split at this
            · cases this
            · exact this
          · rw [R.lf j (fun m hm => by rw [g5]; exact set_false (hj m hm)) (fun _ e => by
              have e : j = (growF s r).2.2.at_ := e
              rw [g7] at e
              have := hj i e
              rw [hi.2] at this; cases this)]
            exact g6 j hja
      · rw [putF_fill hne hg]
        rw [if_neg hg] at hk
        have hb : 0 < r.file.blocks := by
          have := inv.b0
          have : r.file.blocks ≠ 0 := fun e => hg (Or.inl e)
          omega
        have hn116 : r.held.size ≠ 116 := fun e => hg (Or.inr e)
        obtain ⟨-, -, -, -, ⟨s0, s1⟩, -⟩ := inv.h hb
        have hl : r.held.size + (bs.take (116 - r.held.size.toNat)).length ≤ 116 := by rw [List.length_take]; omega
        have hu' : ∀ j, j < (bs.take (116 - r.held.size.toNat)).length → U8 ((bs.take (116 - r.held.size.toNat)).getD j 0) := fun j hj => by
          rw [getD_take _ _ _ hj]; rw [List.length_take] at hj; exact hu j (by omega)
        have wc : WC F0 s r l done := by rcases h with ⟨h, _⟩ | ⟨_, h⟩; omega; exact h
        have R := putF_wc F0 k s { r with held := fillL r.held (bs.take (116 - r.held.size.toNat)) } (bs.drop (116 - r.held.size.toNat)) l (done ++ bs.take (116 - r.held.size.toNat)) fr ok (fill_inv inv ho hl) (fill_ok ho ⟨s0, s1⟩ hu' hl) fo le (fun j hj => by
          rw [List.length_drop] at hj
          rw [List.getD_eq_getElem?_getD, List.getElem?_drop, ← List.getD_eq_getElem?_getD]
          exact hu _ (by omega)) hs (Or.inr ⟨hb, fill_wc inv ho wc hl s0⟩) (by
          rw [List.length_drop]
          have : (if needG { r with held := fillL r.held (bs.take (116 - r.held.size.toNat)) } then 1 else 0) ≤ 1 := by split <;> omega
          omega)
        rw [List.append_assoc, List.take_append_drop] at R
        exact ⟨R.fr, R.ok, R.fo, R.st, R.wc, R.le, fun j hj hja => R.lf j hj hja⟩
end Go.Proofs.Ytilmicekpclmbaa
namespace Go.Proofs.Ytilmicekpclmbaa
set_option linter.unusedVariables false
set_option linter.unusedSimpArgs false
set_option maxRecDepth 100000
open Go.RowKit

theorem cntT_nn : ∀ l : List Bool, 0 ≤ cntT l
  | [] => by decide
  | x :: r => by
    have := cntT_nn r
    cases x <;> simp [cntT] <;> omega
/-- All blocks but the last are full. -/
def Full (l : List (Int × List Int)) : Prop := (∀ x, x ∈ l.dropLast → x.2.length = 116) ∧ ∀ x, x ∈ l → x.2.length ≤ 116
structure MakeOk (s s' : St) (nm : Int) (bs : List Int) (f : Fl) (rc : Int) : Prop where
  st : rc = 0 ∨ rc = 5
  fr : s'.dk.Free
  ok : s'.dk.Ok
  fo : FreeOk s'.free
  le : ∀ j, s'.free.getD j false = true → s.free.getD j false = true
  lf : ∀ j : Int, (∀ k : Nat, j = k → s.free.getD k false = false) → leafD s'.dk j = leafD s.dk j
  lies : rc = 0 → f.name = nm ∧ f.file = 64 * (s.cat.gen + 1) + (s.begun + 1) ∧ f.blocks ≤ 512 ∧ ∃ l, Lies s'.dk f l ∧ (l.map (·.2)).flatten = bs ∧ (l.map (·.1)).Nodup ∧ Full l ∧ ∀ x, x ∈ l → 2 ≤ x.1 ∧ s.free.getD x.1.toNat false = true ∧ s'.free.getD x.1.toNat false = false
theorem makeF_ok {s : St} (i : StInv s) (fr : s.dk.Free) (ok : s.dk.Ok) (fo : FreeOk s.free) (nm : Int) (bs : List Int) (hu : ∀ j, j < bs.length → U8 (bs.getD j 0)) (hb : s.begun + 1 < 64) : MakeOk s (makeF s nm bs).2 nm bs (makeF s nm bs).1.1 (makeF s nm bs).1.2 := by
  obtain ⟨w1, w2⟩ := newWr_inv i nm
  have hnw : s.newWr nm = ⟨0, ⟨nm, 64 * (s.cat.gen + 1) + (s.begun + 1), 0, 0⟩, Lf.zero, 0⟩ := by unfold St.newWr; rw [if_neg (by omega)]
  have R := putF_wc s.free (2 * bs.length + 1) { s with begun := s.begun + 1 } (s.newWr nm) bs [] [] fr ok w1 w2 fo (fun j h => h) hu (by rw [hnw]) (Or.inl (by rw [hnw]; exact ⟨rfl, rfl, rfl, rfl⟩)) (by split <;> omega)
  have K := putF_keeps (2 * bs.length + 1) { s with begun := s.begun + 1 } (s.newWr nm) bs w1 w2 (by show s.free.length ≤ 512; have := i.fr; have := i.b2; omega) hu
  unfold makeF
  obtain ⟨p, hp⟩ : ∃ p, putF (2 * bs.length + 1) { s with begun := s.begun + 1 } (s.newWr nm) bs = p := ⟨_, rfl⟩
  rw [hp] at R K ⊢
  obtain ⟨k1, k2, k3, k4, k5, k6, k7, k8, k9, -, -, -⟩ := K
  rw [List.nil_append] at R
  have hname : p.2.file.name = nm := by rw [k8, hnw]
  have hfile : p.2.file.file = 64 * (s.cat.gen + 1) + (s.begun + 1) := by rw [k9, hnw]
  have hlf : ∀ j : Int, (∀ k : Nat, j = k → s.free.getD k false = false) → leafD p.1.dk j = leafD s.dk j := fun j hj => R.lf j hj (fun e => by rw [hnw] at e; exact absurd e (by show ¬ (0 : Int) < 0; decide))
  have hbl : p.2.file.blocks ≤ 512 := by have := k1.b1; have := cntT_nn p.1.free; omega
  rcases R.st with hs | hs
  · obtain ⟨l, hw⟩ := R.wc hs
    rcases hw with ⟨hb0, hl, hd, hf0⟩ | ⟨hbp, wc⟩
    · have hc : closeF p.1 p.2 = ((p.2.file, 0), p.1, p.2) := by unfold closeF; rw [if_pos hs, if_neg (by omega)]
      rw [hc]
      subst hl
      exact ⟨Or.inl rfl, R.fr, R.ok, R.fo, R.le, hlf, fun _ => ⟨hname, hfile, hbl, [], ⟨hb0, hf0, trivial⟩, hd.symm, by simp, ⟨fun x hx => absurd hx (by simp), fun x hx => absurd hx (by simp)⟩, fun x hx => absurd hx (by simp)⟩⟩
    · have hsy : p.1.dk.says = 0 := Dk.says_goes R.fr.goes
      have hc : closeF p.1 p.2 = ((p.2.file, 0), { p.1 with dk := p.1.dk.write p.2.at_.toNat ({ p.2.held with next := 0 } : Lf).put }, { p.2 with held := { p.2.held with next := 0 }, status := 0 }) := by
        unfold closeF; rw [if_pos hs, if_pos hbp, if_pos hsy, hsy]
      rw [hc]
      obtain ⟨⟨a, ha, hal⟩, hk, hfl, hpl, -, -⟩ := k1.h hbp
      have hn : ({ p.2.held with next := 0 } : Lf).Ok := ⟨k2.k, k2.f, k2.p, ⟨by show (-9223372036854775808 : Int) ≤ 0; decide, by show (0 : Int) ≤ 9223372036854775807; decide⟩, k2.s, k2.l, k2.u⟩
      have hR : ({ p.2.held with next := 0 } : Lf).Right := k1.right hbp (by decide) (by decide)
      have LW : ∀ j : Int, leafD (p.1.dk.write a ({ p.2.held with next := 0 } : Lf).put) j = if j = (a : Int) then some ({ p.2.held with next := 0 } : Lf) else leafD p.1.dk j := leafD_write R.fr hal hn hR
      rw [ha, Int.toNat_natCast]
      have ho := wc.o
      rw [ha, Int.toNat_natCast] at ho
      refine ⟨Or.inl rfl, R.fr.write' _ _, R.ok.write a _ hal ⟨Lf.put_len hn, Lf.put_u8 hn hR⟩, R.fo, R.le, fun j hj => ?_, fun _ => ⟨hname, hfile, hbl, l ++ [(p.2.at_, p.2.held.load.take p.2.held.size.toNat)], ⟨?_, ?_, ?_⟩, ?_, ?_, ⟨fun x hx => (by rw [List.dropLast_concat] at hx; exact wc.fu x hx), fun x hx => (by
        rcases List.mem_append.1 hx with hx | hx
        · have := wc.fu x hx; omega
        · simp at hx
          subst hx
          show (p.2.held.load.take p.2.held.size.toNat).length ≤ 116
          rw [List.length_take]; have := k2.l; omega)⟩, fun x hx => ?_⟩⟩
      · show leafD (p.1.dk.write a ({ p.2.held with next := 0 } : Lf).put) j = _
        rw [LW, if_neg (fun e => by have := hj a e; rw [ho.2] at this; cases this)]
        exact hlf j hj
      · show p.2.file.blocks = ((l ++ [(p.2.at_, p.2.held.load.take p.2.held.size.toNat)]).length : Int)
        rw [wc.n]; simp
      · show p.2.file.first = _
        rw [headA_snoc]; exact wc.f
      · refine Ch.snoc (x := (p.2.at_, p.2.held.load.take p.2.held.size.toNat)) ?_ wc.a.1 ⟨{ p.2.held with next := 0 }, ?_, hk, hfl, ?_, rfl, rfl⟩
        · refine wc.c.keep (fun x hx => ?_)
          show leafD (p.1.dk.write a ({ p.2.held with next := 0 } : Lf).put) x.1 = _
          rw [LW, if_neg (by rw [← ha]; exact (wc.t.2 x hx).2.2)]
        · show leafD (p.1.dk.write a ({ p.2.held with next := 0 } : Lf).put) p.2.at_ = _
          rw [LW, if_pos ha]
        · show p.2.held.place = 0 + (l.length : Int)
          rw [hpl, wc.n]; omega
      · rw [List.map_append, List.flatten_append]
        show (l.map (·.2)).flatten ++ [p.2.held.load.take p.2.held.size.toNat].flatten = bs
        rw [wc.d]; simp
      · rw [List.map_append, List.nodup_append]
        refine ⟨wc.nd, by simp, fun y hy z hz e => ?_⟩
        simp at hz
        obtain ⟨x, hx, rfl⟩ := List.mem_map.1 hy
        exact (wc.t.2 x hx).2.2 (e.trans hz)
      · rcases List.mem_append.1 hx with hx | hx
        · obtain ⟨x0, x1, x2⟩ := wc.t.2 x hx
          have h1 := wc.o.1 x hx
          exact ⟨by have := fo _ h1; omega, h1, x1⟩
        · simp at hx
          subst hx
          exact ⟨wc.a.1, wc.o.2, wc.t.1⟩
  · have hc : closeF p.1 p.2 = ((Fl.zero, 5), p.1, p.2) := by unfold closeF; rw [if_neg (by rw [hs]; decide), hs]
    rw [hc]
    exact ⟨Or.inr rfl, R.fr, R.ok, R.fo, R.le, hlf, fun e => (by have e : (5 : Int) = 0 := e; cases e)⟩
end Go.Proofs.Ytilmicekpclmbaa
namespace Go.Proofs.Ytilmicekpclmbaa
set_option linter.unusedVariables false
set_option linter.unusedSimpArgs false
set_option maxRecDepth 100000
open Go.RowKit

theorem markL_ok : ∀ (l : List Int) (fr : List Bool), l.Nodup → (∀ a, a ∈ l → 0 ≤ a ∧ fr.getD a.toNat false = true) → ∃ fr', markL fr l = some fr' ∧ fr'.length = fr.length ∧ ∀ j : Nat, fr'.getD j false = true ↔ (fr.getD j false = true ∧ (j : Int) ∉ l)
  | [], fr, _, _ => ⟨fr, rfl, rfl, fun j => by simp⟩
  | a :: r, fr, hn, h => by
    obtain ⟨h0, h1⟩ := h a (by simp)
    obtain ⟨n1, n2⟩ := List.nodup_cons.1 hn
    obtain ⟨fr', e1, e2, e3⟩ := markL_ok r (fr.set a.toNat false) n2 (fun b hb => by
      obtain ⟨b0, b1⟩ := h b (by simp [hb])
      refine ⟨b0, ?_⟩
      rw [getD_setB, if_neg]
      · exact b1
      · rintro ⟨e, -⟩
        have : a = b := by omega
        subst this
        exact n1 hb)
    refine ⟨fr', ?_, by rw [e2, List.length_set], fun j => ?_⟩
    · show (if fr.getD a.toNat false then markL (fr.set a.toNat false) r else none) = _
      rw [h1, if_pos rfl]; exact e1
    · rw [e3, getD_setB]
      constructor
      · rintro ⟨q1, q2⟩
        split at q1
        · cases q1
        · rename_i hne
          refine ⟨q1, fun hm => ?_⟩
          rcases List.mem_cons.1 hm with e | e
          · exact hne ⟨by omega, by
              rcases Nat.lt_or_ge j fr.length with k | k
              · exact k
              · rw [List.getD_eq_getElem?_getD, List.getElem?_eq_none k] at q1; cases q1⟩
          · exact q2 e
      · rintro ⟨q1, q2⟩
        refine ⟨?_, fun hm => q2 (by simp [hm])⟩
        rw [if_neg]
        · exact q1
        · rintro ⟨e, -⟩
          exact q2 (by simp; left; omega)
/-- All blocks of some files. -/
def blks (fl : List (Fl × List (Int × List Int))) : List Int := (fl.map (fun x => x.2.map (·.1))).flatten
theorem blks_cons (x : Fl × List (Int × List Int)) (fl) : blks (x :: fl) = x.2.map (·.1) ++ blks fl := rfl
theorem blks_snoc (fl) (x : Fl × List (Int × List Int)) : blks (fl ++ [x]) = blks fl ++ x.2.map (·.1) := by unfold blks; simp
theorem scan_ok {s : Dk} (ho : s.off = false) : ∀ (fl : List (Fl × List (Int × List Int))) (fr : List Bool), (∀ x, x ∈ fl → Lies s x.1 x.2) → (blks fl).Nodup → (∀ a, a ∈ blks fl → 0 ≤ a ∧ fr.getD a.toNat false = true) →
    ∃ fr', scanR s fr (fl.map (·.1)) = (0, fr') ∧ fr'.length = fr.length ∧ ∀ j : Nat, fr'.getD j false = true ↔ (fr.getD j false = true ∧ (j : Int) ∉ blks fl)
  | [], fr, _, _, _ => ⟨fr, rfl, rfl, fun j => by simp [blks]⟩
  | x :: fl, fr, hl, hn, h => by
    rw [blks_cons] at hn h
    obtain ⟨n1, n2, n3⟩ := List.nodup_append.1 hn
    obtain ⟨fr1, e1, e2, e3⟩ := markL_ok (x.2.map (·.1)) fr n1 (fun a ha => h a (List.mem_append.2 (Or.inl ha)))
    obtain ⟨fr2, g1, g2, g3⟩ := scan_ok ho fl fr1 (fun y hy => hl y (by simp [hy])) n2 (fun a ha => by
      obtain ⟨a0, a1⟩ := h a (List.mem_append.2 (Or.inr ha))
      refine ⟨a0, (e3 _).2 ⟨a1, fun hm => ?_⟩⟩
      rw [Int.toNat_of_nonneg a0] at hm
      exact n3 a hm a ha rfl)
    have lx := hl x (by simp)
    refine ⟨fr2, ?_, by rw [g2, e2], fun j => ?_⟩
    · show scanR s fr (x.1 :: fl.map (·.1)) = _
      rw [scanR_on (lx.status ho) (by rw [lx.at_ ho]; exact e1)]
      exact g1
    · rw [g3, e3, blks_cons, List.mem_append]
      constructor
      · rintro ⟨⟨a, b⟩, c⟩
        exact ⟨a, fun e => by rcases e with e | e; exact b e; exact c e⟩
      · rintro ⟨a, b⟩
        exact ⟨⟨a, fun e => b (Or.inl e)⟩, fun e => b (Or.inr e)⟩
/-- Files that lie in a store beside each other, in blocks that aren't free. -/
structure Has (s : Dk) (free : List Bool) (fl : List (Fl × List (Int × List Int))) : Prop where
  l : ∀ x, x ∈ fl → Lies s x.1 x.2
  n : (blks fl).Nodup
  r : ∀ a, a ∈ blks fl → 2 ≤ a ∧ free.getD a.toNat false = false
theorem Has.nil (s : Dk) (free : List Bool) : Has s free [] := ⟨fun x hx => absurd hx (by simp), by simp [blks], fun a ha => absurd ha (by simp [blks])⟩
theorem mem_blks {fl : List (Fl × List (Int × List Int))} {x : Fl × List (Int × List Int)} (hx : x ∈ fl) {y : Int × List Int} (hy : y ∈ x.2) : y.1 ∈ blks fl := by
  unfold blks
  exact List.mem_flatten.2 ⟨x.2.map (·.1), List.mem_map.2 ⟨x, hx, rfl⟩, List.mem_map.2 ⟨y, hy, rfl⟩⟩
theorem Has.keep {s s' : Dk} {free free' : List Bool} {fl : List (Fl × List (Int × List Int))} (h : Has s free fl) (le : ∀ j, free'.getD j false = true → free.getD j false = true) (lf : ∀ j : Int, (∀ k : Nat, j = k → free.getD k false = false) → leafD s' j = leafD s j) : Has s' free' fl where
  l := fun x hx => (h.l x hx).keep (fun y hy => lf y.1 (fun k hk => by
    have := (h.r _ (mem_blks hx hy)).2
    rw [hk, Int.toNat_natCast] at this
    exact this))
  n := h.n
  r := fun a ha => ⟨(h.r a ha).1, by
    have := (h.r a ha).2
    cases e : free'.getD a.toNat false
    · rfl
    · rw [le _ e] at this; cases this⟩
/-- A file that is made stands beside the others. -/
theorem Has.made {s s' : St} {nm : Int} {bs : List Int} {f : Fl} {rc : Int} {fl : List (Fl × List (Int × List Int))} (h : Has s.dk s.free fl) (m : MakeOk s s' nm bs f rc) : Has s'.dk s'.free fl ∧ (rc = 0 → f.name = nm ∧ f.file = 64 * (s.cat.gen + 1) + (s.begun + 1) ∧ f.blocks ≤ 512 ∧ ∃ l, (l.map (·.2)).flatten = bs ∧ Full l ∧ Has s'.dk s'.free (fl ++ [(f, l)])) := by
  have hk := h.keep m.le m.lf
  refine ⟨hk, fun h0 => ?_⟩
  obtain ⟨h1, h2, hbl, l, h3, h4, h5, hF, h6⟩ := m.lies h0
  refine ⟨h1, h2, hbl, l, h4, hF, ⟨fun x hx => ?_, ?_, fun a ha => ?_⟩⟩
  · rcases List.mem_append.1 hx with hx | hx
    · exact hk.l x hx
    · simp at hx; subst hx; exact h3
  · rw [blks_snoc, List.nodup_append]
    refine ⟨h.n, h5, fun a ha b hb e => ?_⟩
    subst e
    obtain ⟨y, hy, rfl⟩ := List.mem_map.1 hb
    have h7 := (h6 y hy).2.1
    rw [(h.r _ ha).2] at h7; cases h7
  · rw [blks_snoc] at ha
    rcases List.mem_append.1 ha with ha | ha
    · exact hk.r a ha
    · obtain ⟨y, hy, rfl⟩ := List.mem_map.1 ha
      exact ⟨(h6 y hy).1, (h6 y hy).2.2⟩
end Go.Proofs.Ytilmicekpclmbaa
