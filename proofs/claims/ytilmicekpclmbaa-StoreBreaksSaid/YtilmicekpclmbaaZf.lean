/-
  Elements of equal length laid one behind the other in a row; a whole element read and written.
  The program's disk in memory: a struct, a row of blocks, a row of writes that wait; its small functions.
  The program's disk: put, Flush, Boot.
  The program's disk: put.
-/
import Derived.Test.YtilmicekpclmbaaZd
import Derived.Test.YtilmicekpclmbaaDk
import Derived.Test.YtilmicekpclmbaaZe
import Derived.Deep.MidRow
import Derived.Lib.MinMax
import Derived.WalkSmall
import Derived.Deep.QuietTactic
import Derived.Deep.RegionHeldLaw
import Derived.Deep.RegionHeld3
import Derived.Deep.DrawnRows
import Derived.Deep.WholeRow
namespace Go.Proofs.Ytilmicekpclmbaa
set_option linter.unusedVariables false
set_option linter.unusedSimpArgs false
open Go.RowKit

def Even (z : Nat) (ls : List (List Value)) : Prop := ∀ l, l ∈ ls → l.length = z
theorem Even.tail {z : Nat} {l : List Value} {r : List (List Value)} (h : Even z (l :: r)) : Even z r := fun x hx => h x (by simp [hx])
theorem Even.head {z : Nat} {l : List Value} {r : List (List Value)} (h : Even z (l :: r)) : l.length = z := h l (by simp)
theorem Even.len {z : Nat} : ∀ {ls : List (List Value)}, Even z ls → ls.flatten.length = ls.length * z
  | [], _ => by simp
  | l :: r, h => by rw [List.flatten_cons, List.length_append, h.head, Even.len h.tail, List.length_cons, Nat.add_mul, Nat.one_mul, Nat.add_comm]
theorem Even.at {z : Nat} : ∀ {ls : List (List Value)}, Even z ls → ∀ (i k : Nat), i < ls.length → k < z → ls.flatten[i * z + k]? = (ls.getD i [])[k]?
  | [], _, i, k, hi, _ => by simp at hi
  | l :: r, h, 0, k, _, hk => by
    rw [List.flatten_cons, Nat.zero_mul, Nat.zero_add, List.getElem?_append_left (by rw [h.head]; exact hk)]
    rfl
  | l :: r, h, i + 1, k, hi, hk => by
    rw [List.flatten_cons, List.getElem?_append_right (by rw [h.head, Nat.add_mul]; omega), h.head]
    have e : (i + 1) * z + k - z = i * z + k := by rw [Nat.add_mul]; omega
    rw [e, Even.at h.tail i k (by simpa using hi) hk]
    rfl
theorem Even.put {z : Nat} : ∀ {ls : List (List Value)}, Even z ls → ∀ (i k : Nat) (v : Value), i < ls.length → k < z → ls.flatten.set (i * z + k) v = (ls.set i ((ls.getD i []).set k v)).flatten
  | [], _, i, k, v, hi, _ => by simp at hi
  | l :: r, h, 0, k, v, _, hk => by
    rw [List.flatten_cons, Nat.zero_mul, Nat.zero_add, List.set_append_left _ _ (by rw [h.head]; exact hk)]
    rfl
  | l :: r, h, i + 1, k, v, hi, hk => by
    rw [List.flatten_cons, List.set_append_right _ _ (by rw [h.head, Nat.add_mul]; omega), h.head]
    have e : (i + 1) * z + k - z = i * z + k := by rw [Nat.add_mul]; omega
    rw [e, Even.put h.tail i k v (by simpa using hi) hk]
    rfl
theorem mem_set_or {α : Type} {l : List α} {i : Nat} {x a : α} (h : a ∈ l.set i x) : a = x ∨ a ∈ l := by
  rcases List.mem_or_eq_of_mem_set h with h | h
  · exact Or.inr h
  · exact Or.inl h
theorem Even.set {z : Nat} {ls : List (List Value)} (h : Even z ls) (i : Nat) (x : List Value) (hx : x.length = z) : Even z (ls.set i x) := fun l hl => by
  rcases mem_set_or hl with rfl | hl
  · exact hx
  · exact h l hl
theorem Even.get {z : Nat} {ls : List (List Value)} (h : Even z ls) (i : Nat) (hi : i < ls.length) : (ls.getD i []).length = z := by
  rw [List.getD_eq_getElem?_getD, List.getElem?_eq_getElem hi]
  exact h _ (List.getElem_mem _)
/-- Many cells written from a place on. -/
def putAll : List Value → Nat → List Value → List Value
  | xs, _, [] => xs
  | xs, o, v :: r => putAll (xs.set o v) (o + 1) r
theorem getD_set_self (ls : List (List Value)) (i : Nat) (x : List Value) (hi : i < ls.length) : (ls.set i x).getD i [] = x := by
  rw [List.getD_eq_getElem?_getD, List.getElem?_set_self hi]; rfl
theorem Even.putAll {z : Nat} : ∀ (vs : List Value) {ls : List (List Value)}, Even z ls → ∀ (i k : Nat), i < ls.length → k + vs.length ≤ z → putAll ls.flatten (i * z + k) vs = (ls.set i (putAll (ls.getD i []) k vs)).flatten
  | [], ls, h, i, k, hi, hk => by
    show ls.flatten = (ls.set i (ls.getD i [])).flatten
    rw [List.getD_eq_getElem?_getD, List.getElem?_eq_getElem hi]
    show ls.flatten = (ls.set i ls[i]).flatten
    rw [List.set_getElem_self]
  | v :: r, ls, h, i, k, hi, hk => by
    have hk' : k + (r.length + 1) ≤ z := by simpa using hk
    have hl : (ls.getD i []).length = z := h.get i hi
    have e := Even.putAll r (h.set i ((ls.getD i []).set k v) (by rw [List.length_set]; exact hl)) i (k + 1) (by rw [List.length_set]; exact hi) (by omega)
    rw [getD_set_self _ _ _ hi, List.set_set] at e
    show Go.Proofs.Ytilmicekpclmbaa.putAll (ls.flatten.set (i * z + k) v) (i * z + (k + 1)) r = (ls.set i (Go.Proofs.Ytilmicekpclmbaa.putAll ((ls.getD i []).set k v) (k + 1) r)).flatten
    rw [h.put i k v hi (by omega)]
    exact e
theorem putAll_len : ∀ (vs xs : List Value) (o : Nat), (putAll xs o vs).length = xs.length
  | [], _, _ => rfl
  | v :: r, xs, o => by show (putAll (xs.set o v) (o + 1) r).length = _; rw [putAll_len r, List.length_set]
theorem putAll_app : ∀ (vs ps xs : List Value), xs.length = vs.length → putAll (ps ++ xs) ps.length vs = ps ++ vs
  | [], ps, xs, h => by rw [List.eq_nil_of_length_eq_zero h]; rfl
  | v :: r, ps, [], h => by simp at h
  | v :: r, ps, x :: xs, h => by
    show putAll ((ps ++ x :: xs).set ps.length v) (ps.length + 1) r = _
    rw [List.set_append_right _ _ (Nat.le_refl _), Nat.sub_self]
    have e := putAll_app r (ps ++ [v]) xs (by simpa using h)
    rw [List.length_append, List.append_assoc, List.append_assoc] at e
    exact e
theorem putAll_whole (vs xs : List Value) (h : xs.length = vs.length) : putAll xs 0 vs = vs := putAll_app vs [] xs h
/-- A whole element is written. -/
theorem Even.whole {z : Nat} {ls : List (List Value)} (h : Even z ls) (i : Nat) (vs : List Value) (hi : i < ls.length) (hv : vs.length = z) : Go.Proofs.Ytilmicekpclmbaa.putAll ls.flatten (i * z) vs = (ls.set i vs).flatten := by
  have e := h.putAll vs i 0 hi (by omega)
  rw [putAll_whole _ _ (by rw [h.get i hi, hv])] at e
  exact e

/-! ## In memory -/
theorem RowN.puts {base : Nat} {e : TypeId} {z n c g : Nat} : ∀ (vs : List Value) {w : World} {xs : List Value} (o : Nat), RowN w base e z (some ⟨g, 0, none⟩) n c xs → RowN (w.setCells g o vs) base e z (some ⟨g, 0, none⟩) n c (putAll xs o vs)
  | [], _, _, _, h => h
  | v :: r, _, _, o, h => RowN.puts r (o + 1) (h.set o v)
theorem heap_setCells (b k : Nat) (h : k ≠ b) : ∀ (vs : List Value) (o : Nat) (w : World), (w.setCells b o vs).heap[k]? = w.heap[k]?
  | [], _, _ => rfl
  | v :: r, o, w => by show ((w.setCell ⟨b, o, none⟩ v).setCells b (o + 1) r).heap[k]? = _; rw [heap_setCells b k h r, Below.heap_setCell _ _ _ _ h]
theorem size_setCells (b : Nat) : ∀ (vs : List Value) (o : Nat) (w : World), (w.setCells b o vs).heap.size = w.heap.size
  | [], _, _ => rfl
  | v :: r, o, w => by show ((w.setCell ⟨b, o, none⟩ v).setCells b (o + 1) r).heap.size = _; rw [size_setCells b r, setCell_size]
theorem Keep.setCells {F : Nat → Prop} {b : Nat} (hb : F b) : ∀ (vs : List Value) (o : Nat) {w w' : World}, Keep F w w' → Keep F w (w'.setCells b o vs)
  | [], _, _, _, h => h
  | v :: r, o, _, _, h => Keep.setCells hb r (o + 1) (h.setCell (a := ⟨b, o, none⟩) hb v)
theorem RowN.range {w : World} {base : Nat} {e : TypeId} {z n c g : Nat} {ls : List (List Value)} (h : RowN w base e z (some ⟨g, 0, none⟩) n c ls.flatten) (hE : Even z ls) (hn : ls.length = n) (i : Nat) (hi : i < n) : w.rangeAt g (i * z) (ls.getD i []) := fun k v hv => by
  have hk : k < z := by
    rcases Nat.lt_or_ge k z with e | e
    · exact e
    · rw [List.getElem?_eq_none (by rw [hE.get i (by omega)]; exact e)] at hv; cases hv
  obtain ⟨g', e1, h1⟩ := h.at (by omega)
  injection e1 with e1
  injection e1 with e1
  subst e1
  have hm : (i + 1) * z ≤ n * z := Nat.mul_le_mul_right z hi
  rw [Nat.add_mul] at hm
  rw [(h1 (i * z + k)).2 (by omega), hE.at i k (by omega) hk]
  exact hv
theorem RowN.there {w : World} {base : Nat} {e : TypeId} {z n c g : Nat} {ls : List (List Value)} (h : RowN w base e z (some ⟨g, 0, none⟩) n c ls.flatten) (hE : Even z ls) (hn : ls.length = n) (i : Nat) (hi : i < n) : w.there g (i * z) z := fun k hk => by
  obtain ⟨g', e1, h1⟩ := h.at (by omega)
  injection e1 with e1
  injection e1 with e1
  subst e1
  refine ⟨?_, (h1 _).1⟩
  have hr := h.range hE hn i hi k ((ls.getD i [])[k]'(by rw [hE.get i (by omega)]; exact hk)) (List.getElem?_eq_getElem _)
  rw [hr]
  rfl

/-! ## The blocks, and what waits -/
def bl (s : Dk) : List (List Value) := List.zipWith (fun x t => vals x ++ [Value.bool t]) s.blk s.bad
def wrow (p : Nat × List Int) : List Value := Value.int .i64 (p.1 : Int) :: vals p.2
def wl (l : List (Nat × List Int)) : List (List Value) := l.map wrow
theorem bl_len {s : Dk} (h : s.Ok) : (bl s).length = s.blk.length := by unfold bl; rw [List.length_zipWith, h.nb]; simp
theorem wl_len (l : List (Nat × List Int)) : (wl l).length = l.length := by unfold wl; rw [List.length_map]
theorem bl_getD {s : Dk} (h : s.Ok) (i : Nat) (hi : i < s.blk.length) : (bl s).getD i [] = vals (s.blk.getD i []) ++ [Value.bool (s.bad.getD i false)] := by
  unfold bl
  rw [List.getD_eq_getElem?_getD, List.getElem?_zipWith, List.getD_eq_getElem?_getD, List.getD_eq_getElem?_getD, List.getElem?_eq_getElem hi, List.getElem?_eq_getElem (by rw [h.nb]; exact hi)]
  rfl
theorem wl_getD (l : List (Nat × List Int)) (i : Nat) (hi : i < l.length) : (wl l).getD i [] = wrow (l.getD i (0, [])) := by
  unfold wl
  rw [List.getD_eq_getElem?_getD, List.getElem?_map, List.getD_eq_getElem?_getD, List.getElem?_eq_getElem hi]
  rfl
theorem bl_even {s : Dk} (h : s.Ok) : Even 129 (bl s) := fun l hl => by
  obtain ⟨i, hi, rfl⟩ := List.mem_iff_getElem.1 hl
  have hi' : i < s.blk.length := by rw [bl_len h] at hi; exact hi
  have e := bl_getD h i hi'
  rw [List.getD_eq_getElem?_getD, List.getElem?_eq_getElem hi] at e
  have e : (bl s)[i] = _ := e
  rw [e, List.length_append, vals_length, (h.blks i hi').1]
  rfl
theorem wl_even {l : List (Nat × List Int)} (h : ∀ p, p ∈ l → IsBlk p.2) : Even 129 (wl l) := fun x hx => by
  unfold wl at hx
  rw [List.mem_map] at hx
  obtain ⟨p, hp, rfl⟩ := hx
  show (Value.int .i64 (p.1 : Int) :: vals p.2).length = 129
  rw [List.length_cons, vals_length, (h p hp).1]
theorem zip_set {α β γ : Type} (f : α → β → γ) (l : List α) (r : List β) (i : Nat) (x : α) (y : β) (hi : i < l.length) (hr : r.length = l.length) : List.zipWith f (l.set i x) (r.set i y) = (List.zipWith f l r).set i (f x y) := by
  apply List.ext_getElem?
  intro k
  rw [List.getElem?_zipWith, List.getElem?_set, List.getElem?_set, List.getElem?_set, List.length_zipWith, List.getElem?_zipWith]
  by_cases e : i = k
  · subst e
    simp [hi, hr]
  · simp [e]
theorem bl_land {s : Dk} (h : s.Ok) (p : Nat × List Int) (hp : p.1 < s.blk.length) : bl (s.land p) = (bl s).set p.1 (vals p.2 ++ [Value.bool false]) := zip_set _ _ _ _ _ _ hp h.nb
theorem set_self {α : Type} (l : List α) (i : Nat) (d : α) (hi : i < l.length) : l.set i (l.getD i d) = l := by
  rw [List.getD_eq_getElem?_getD, List.getElem?_eq_getElem hi]
  exact List.set_getElem_self _
theorem bl_tear {s : Dk} (h : s.Ok) (i : Nat) (hp : i < s.blk.length) : bl (s.tear i) = (bl s).set i (vals (s.blk.getD i []) ++ [Value.bool true]) := by
  have e := zip_set (fun (x : List Int) t => vals x ++ [Value.bool t]) s.blk s.bad i (s.blk.getD i []) true hp h.nb
  rw [set_self s.blk i [] hp] at e
  exact e
/-- A block's bytes anew. -/
theorem bl_byte {s : Dk} (h : s.Ok) (i : Nat) (ys : List Int) (hp : i < s.blk.length) : bl { s with blk := s.blk.set i ys } = (bl s).set i (vals ys ++ [Value.bool (s.bad.getD i false)]) := by
  have e := zip_set (fun (x : List Int) t => vals x ++ [Value.bool t]) s.blk s.bad i ys (s.bad.getD i false) hp h.nb
  rw [set_self s.bad i false (by rw [h.nb]; exact hp)] at e
  exact e
end Go.Proofs.Ytilmicekpclmbaa
namespace Go.Proofs.Ytilmicekpclmbaa
set_option linter.unusedVariables false
set_option linter.unusedSimpArgs false
open Go.RowKit

def dkCells (s : Dk) (g cb : Nat) (A : Option Addr) (c : Nat) : List Value := [.slice (some ⟨g, 0, none⟩) s.blk.length cb, .slice A s.wt.length c, .int .i64 s.fuse, .bool s.off, .int .i64 (s.wrote : Int)]
/-- Where its parts lie: its blocks' row at g, what waits at A. -/
structure Lay (w : World) (F : Nat → Prop) (b : Nat) (s : Dk) (g cb : Nat) (A : Option Addr) (c : Nat) : Prop where
  ok : s.Ok
  st : Arr w b 69 (dkCells s g cb A c)
  rb : RowN w 0 130 129 (some ⟨g, 0, none⟩) s.blk.length cb (bl s).flatten
  rw' : RowN w 0 117 129 A s.wt.length c (wl s.wt).flatten
  fb : F b
  fg : F g
  fA : InF F A
  lt : ∀ k, F k → k < w.heap.size
def DiskAt (w : World) (F : Nat → Prop) (b : Nat) (s : Dk) : Prop := ∃ g cb A c, Lay w F b s g cb A c
theorem Lay.stay {w w' : World} {F : Nat → Prop} {b : Nat} {s : Dk} {g cb : Nat} {A : Option Addr} {c : Nat} (h : Lay w F b s g cb A c) (k : ∀ j, F j → w'.heap[j]? = w.heap[j]?) : Lay w' F b s g cb A c where
  ok := h.ok
  st := h.st.same (k b h.fb)
  rb := h.rb.same (fun a ha => by injection ha with ha; subst ha; exact k _ h.fg)
  rw' := h.rw'.same (fun a ha => k _ (h.fA a ha))
  fb := h.fb
  fg := h.fg
  fA := h.fA
  lt := fun j hj => by
    have h1 := h.lt j hj
    rcases Nat.lt_or_ge j w'.heap.size with e | e
    · exact e
    · have := k j hj
      rw [Array.getElem?_eq_none (by exact e), Array.getElem?_eq_getElem h1] at this
      cases this
theorem DiskAt.ok {w F b s} (h : DiskAt w F b s) : s.Ok := by obtain ⟨_, _, _, _, h⟩ := h; exact h.ok
theorem DiskAt.lt {w F b s} (h : DiskAt w F b s) : ∀ k, F k → k < w.heap.size := by obtain ⟨_, _, _, _, h⟩ := h; exact h.lt
theorem DiskAt.stay {w w' : World} {F b s} (h : DiskAt w F b s) (k : ∀ k, F k → w'.heap[k]? = w.heap[k]?) : DiskAt w' F b s := by obtain ⟨g, cb, A, c, h⟩ := h; exact ⟨g, cb, A, c, h.stay k⟩
def Step (F : Nat → Prop) (b : Nat) (s' : Dk) (w w' : World) : Prop := ∃ F', DiskAt w' F' b s' ∧ Keep F w w' ∧ Sub F' F w
theorem Step.same {F b s w} (h : DiskAt w F b s) : Step F b s w w := ⟨F, h, Keep.refl _ _, Sub.refl _ _⟩
theorem drewN_heap (w : World) (m : Nat) : (w.drewN m).heap = w.heap := rfl
theorem Step.drew {F b s w} (h : DiskAt w F b s) (m : Nat) : Step F b s w (w.drewN m) := ⟨F, h.stay (fun _ _ => rfl), ⟨rfl, rfl, rfl, Nat.le_refl _, fun _ _ _ => rfl⟩, Sub.refl _ _⟩
theorem Step.on {F F1 b s w w1 w2} (k1 : Keep F w w1) (s1 : Sub F1 F w) (h : Step F1 b s w1 w2) : Step F b s w w2 := by
  obtain ⟨F2, h2, k2, s2⟩ := h
  exact ⟨F2, h2, k1.trans s1 k2, s1.trans s2 k1.size⟩
/-- The rows lie apart from the struct and from each other. -/
theorem Lay.bg {w F b s g cb A c} (h : Lay w F b s g cb A c) : g ≠ b := h.rb.ne h.st (by decide) _ rfl
theorem Lay.bA {w F b s g cb A c} (h : Lay w F b s g cb A c) (a : Addr) (ha : A = some a) : a.block ≠ b := h.rw'.ne h.st (by decide) a ha
theorem Lay.gA {w F b s g cb A c} (h : Lay w F b s g cb A c) (a : Addr) (ha : A = some a) : a.block ≠ g := by
  obtain ⟨cur, e⟩ := h.rb.kind _ rfl
  exact h.rw'.ne e (by decide) a ha
/-- One of its words is written anew. -/
theorem Lay.word {w : World} {F : Nat → Prop} {b : Nat} {s s' : Dk} {g cb : Nat} {A : Option Addr} {c : Nat} (h : Lay w F b s g cb A c) (k : Nat) (v : Value) (hb : s'.blk = s.blk) (hd : s'.bad = s.bad) (hw : s'.wt = s.wt) (ho : s'.Ok) (hv : (dkCells s g cb A c).set k v = dkCells s' g cb A c) : Lay (w.setCell ⟨b, k, none⟩ v) F b s' g cb A c where
  ok := ho
  st := by have := h.st.set k v; rw [hv] at this; exact this
  rb := by
    have e : bl s' = bl s := by unfold bl; rw [hb, hd]
    rw [e, hb]
    exact h.rb.other (fun a ha => by injection ha with ha; subst ha; exact h.bg) v
  rw' := by rw [hw]; exact h.rw'.other h.bA v
  fb := h.fb
  fg := h.fg
  fA := h.fA
  lt := fun j hj => by rw [setCell_size]; exact h.lt j hj

theorem has_any (w : World) (b : Nat) (n : Nat) (X : Option Addr) (cb : Nat) (i : Int) (c0 : w.cell? ⟨b, 0, none⟩ = some (.slice X n cb)) (hn : n ≤ 512) (h0 : -9223372036854775808 ≤ i) (h1 : i ≤ 9223372036854775807) :
    Calls Try.prog 57 #[.pointer (some ⟨b, 0, none⟩), .int .i64 i] w fun e w' => e = .returned (.bool (decide (0 ≤ i ∧ i < n))) ∧ w' = w := by
  go_enter Try.func57, Try.ntmps57
  by_cases t1 : 0 ≤ i
  · have d1 : decide (0 ≤ i) = true := by simpa using t1
    have d2 : decide (i ≥ 0) = true := by simpa using t1
    obtain ⟨q, hq⟩ : ∃ q, decide (i < (n : Int)) = q := ⟨_, rfl⟩
    have e : decide (0 ≤ i ∧ i < (n : Int)) = q := by rw [← hq]; simp [t1]
    have E := Lib.hid e
    clear e t1
    go_wp2
    go_ret
    exact ⟨by rw [E.out]; rfl, rfl⟩
  · have d1 : decide (0 ≤ i) = false := by simpa using t1
    have d2 : decide (i ≥ 0) = false := by simpa using t1
    have e : decide (0 ≤ i ∧ i < (n : Int)) = false := by rw [decide_eq_false_iff_not]; omega
    have E := Lib.hid e
    clear e t1
    go_wp2
    go_ret
    exact ⟨by rw [E.out]; rfl, rfl⟩
set_option maxHeartbeats 400000 in
theorem goes_any (F : Nat → Prop) (b : Nat) (s : Dk) (g cb : Nat) (A : Option Addr) (c : Nat) (w : World) (h : Lay w F b s g cb A c) :
    Calls Try.prog 58 #[.pointer (some ⟨b, 0, none⟩)] w fun e w' => e = .returned (.bool s.goes) ∧ Lay w' F b s.asked g cb A c ∧ Keep F w w' := by
  have c2 : w.cell? ⟨b, 2, none⟩ = some (.int .i64 s.fuse) := h.st.cell 2
  have c3 : w.cell? ⟨b, 3, none⟩ = some (.bool s.off) := h.st.cell 3
  have z2 := h.st.frozen 2
  have z3 := h.st.frozen 3
  have f0 := h.ok.f0
  have f1 := h.ok.f1
  have hdn : Lay (w.setCell ⟨b, 3, none⟩ (.bool true)) F b s.down g cb A c := h.word 3 (.bool true) rfl rfl rfl h.ok.down rfl
  have HDN := Lib.hid hdn; have H := Lib.hid h
  clear hdn h
  go_enter Try.func58, Try.ntmps58
  by_cases hf : s.fuse = 0
  · have hg : s.goes = false := by unfold Dk.goes; simp [hf]
    have HG := Lib.hid hg
    rw [hf] at c2
    clear hg hf
    have y3 : (w.setCell ⟨b, 3, none⟩ (.bool true)).cell? ⟨b, 3, none⟩ = some (.bool true) := HDN.out.st.cell 3
    go_wp2
    go_ret
    exact ⟨by rw [HG.out]; rfl, by rw [Dk.asked_no HG.out]; exact HDN.out, (Keep.refl F w).setCell H.out.fb _⟩
  · cases ho : s.off
    · rw [ho] at c3
      have hg : s.goes = true := by unfold Dk.goes; simp [ho, hf]
      have HG := Lib.hid hg
      by_cases hp : 0 < s.fuse
      · have hb : Lay (w.setCell ⟨b, 2, none⟩ (.int .i64 (s.fuse - 1))) F b s.burn g cb A c := H.out.word 2 _ rfl rfl rfl H.out.ok.burn (by unfold dkCells Dk.burn; rw [if_pos hp]; rfl)
        have HB := Lib.hid hb
        have t1 : (s.fuse == 0) = false := by simpa using hf
        have t2 : decide (0 < s.fuse) = true := by simpa using hp
        have t3 : decide (s.fuse > 0) = true := by simpa using hp
        clear hg ho hf hb
        generalize s.fuse = fu at *
        go_wp2
        go_ret
        exact ⟨by rw [HG.out]; rfl, by rw [Dk.asked_yes HG.out]; exact HB.out, (Keep.refl F w).setCell H.out.fb _⟩
      · have hb : s.burn = s := by unfold Dk.burn; rw [if_neg hp]
        have HB := Lib.hid hb
        have t1 : (s.fuse == 0) = false := by simpa using hf
        have t2 : decide (0 < s.fuse) = false := by simpa using hp
        have t3 : decide (s.fuse > 0) = false := by simpa using hp
        clear hg ho hf hb
        generalize s.fuse = fu at *
        go_wp2
        go_ret
        exact ⟨by rw [HG.out]; rfl, by rw [Dk.asked_yes HG.out, HB.out]; exact H.out, Keep.refl F w⟩
    · rw [ho] at c3
      have hg : s.goes = false := by unfold Dk.goes; simp [ho]
      have HG := Lib.hid hg
      have e : s.down = s := by unfold Dk.down; cases s; simp at ho; subst ho; rfl
      have E := Lib.hid e
      have t1 : (s.fuse == 0) = false := by simpa using hf
      clear hg ho e hf
      generalize s.fuse = fu at *
      go_wp2
      go_ret
      exact ⟨by rw [HG.out]; rfl, by rw [Dk.asked_no HG.out, E.out]; exact H.out, Keep.refl F w⟩
theorem disk_waits (F b s) (w : World) (h : DiskAt w F b s) (hw : s.wt.length ≤ 1000000) : Calls Try.prog 20 #[.pointer (some ⟨b, 0, none⟩)] w fun e w' => e = .returned (.int .i64 s.wt.length) ∧ ∃ m, w' = w.drewN m := by
  obtain ⟨g, cb, A, c, h⟩ := h
  have c1 : w.cell? ⟨b, 1, none⟩ = some (.slice A s.wt.length c) := h.st.cell 1
  clear h
  generalize s.wt.length = q at *
  go_enter Try.func20, Try.ntmps20
  go_wp2
  go_ret
  exact ⟨rfl, 0, rfl⟩
theorem disk_off (F b s) (w : World) (h : DiskAt w F b s) : Calls Try.prog 32 #[.pointer (some ⟨b, 0, none⟩)] w fun e w' => e = .returned (.bool s.off) ∧ ∃ m, w' = w.drewN m := by
  obtain ⟨g, cb, A, c, h⟩ := h
  have c1 : w.cell? ⟨b, 3, none⟩ = some (.bool s.off) := h.st.cell 3
  clear h
  generalize s.off = q at *
  go_enter Try.func32, Try.ntmps32
  go_wp2
  go_ret
  exact ⟨rfl, 0, rfl⟩
theorem disk_len (F b s) (w : World) (h : DiskAt w F b s) : Calls Try.prog 26 #[.pointer (some ⟨b, 0, none⟩)] w fun e w' => e = .returned (.int .i64 s.blk.length) ∧ ∃ m, w' = w.drewN m := by
  obtain ⟨g, cb, A, c, h⟩ := h
  have c1 : w.cell? ⟨b, 0, none⟩ = some (.slice (some ⟨g, 0, none⟩) s.blk.length cb) := h.st.cell 0
  clear h
  generalize s.blk.length = q at *
  go_enter Try.func26, Try.ntmps26
  go_wp2
  go_ret
  exact ⟨rfl, 0, rfl⟩
end Go.Proofs.Ytilmicekpclmbaa
namespace Go.Proofs.Ytilmicekpclmbaa
set_option linter.unusedVariables false
set_option linter.unusedSimpArgs false
open Go.RowKit

theorem Try.size_arr : (Try.prog.info? 115).map (·.size) = some 128 := by kernel_rfl
theorem Try.size_block : (Try.prog.info? 130).map (·.size) = some 129 := by kernel_rfl
theorem Try.size_write : (Try.prog.info? 117).map (·.size) = some 129 := by kernel_rfl
theorem putAll_mid : ∀ (vs ps xs rs : List Value), xs.length = vs.length → putAll (ps ++ (xs ++ rs)) ps.length vs = ps ++ (vs ++ rs)
  | [], ps, xs, rs, h => by rw [List.eq_nil_of_length_eq_zero h]; rfl
  | v :: r, ps, [], rs, h => by simp at h
  | v :: r, ps, x :: xs, rs, h => by
    show putAll ((ps ++ x :: (xs ++ rs)).set ps.length v) (ps.length + 1) r = _
    rw [List.set_append_right _ _ (Nat.le_refl _), Nat.sub_self]
    have e := putAll_mid r (ps ++ [v]) xs rs (by simpa using h)
    rw [List.length_append, List.append_assoc, List.append_assoc] at e
    exact e
theorem putAll_front (vs xs rs : List Value) (h : xs.length = vs.length) : putAll (xs ++ rs) 0 vs = vs ++ rs := putAll_mid vs [] xs rs h
theorem fill_fold : ∀ (vs : List Value) (k : Nat) (xs : Array Value), (vs.zipIdx k).foldl (fun (cs : Array Value) (c : Value × Nat) => cs.setIfInBounds c.2 c.1) xs = (putAll xs.toList k vs).toArray
  | [], k, xs => by simp [putAll]
  | v :: r, k, xs => by
    rw [List.zipIdx_cons, List.foldl_cons, fill_fold r (k + 1)]
    show _ = (putAll (xs.toList.set k v) (k + 1) r).toArray
    rw [Array.toList_setIfInBounds]
theorem fill_fold1 : ∀ (vs : List Value) (k : Nat) (xs : Array Value), (vs.zipIdx k).foldl (fun (cs : Array Value) (c : Value × Nat) => cs.setIfInBounds (1 + c.2) c.1) xs = (putAll xs.toList (1 + k) vs).toArray
  | [], k, xs => by simp [putAll]
  | v :: r, k, xs => by
    rw [List.zipIdx_cons, List.foldl_cons, fill_fold1 r (k + 1)]
    show _ = (putAll (xs.toList.set (1 + k) v) (1 + k + 1) r).toArray
    rw [Array.toList_setIfInBounds]
    rfl
theorem Try.zero_block : (Try.prog.info? 130).bind (fun i => i.zero.map (fun z => (z.cells.toList, i.size))) = some (vals (zeros 128) ++ [Value.bool false], 129) := by kernel_rfl
theorem Try.places_block : (match Try.prog.underlying 130 with | some (.struct fs) => fs.toList.mapM (fun f => (Try.prog.info? f.type).map fun i => (f.offset, i.size)) | _ => none) = some [(0, 128), (128, 1)] := by kernel_rfl
theorem run_build_block (D : List Value) (h : D.length = 128) (w : World) : (Instr.build 130 #[(0, .agg D.toArray)]).run Try.prog w = .ok (.agg (D ++ [Value.bool false]).toArray) w := by
  refine run_build w _ _ _ ?_
  have h1 := Try.zero_block
  have h2 := Try.places_block
  unfold Program.built
  cases hi : Try.prog.info? 130 with
  | none => rw [hi] at h1; cases h1
  | some it =>
    rw [hi] at h1
    cases hu : Try.prog.underlying 130 with
    | none => rw [hu] at h2; cases h2
    | some d =>
      rw [hu] at h2
      cases hz : it.zero with
      | none => simp [hz] at h1
      | some z =>
        simp [hz] at h1
        obtain ⟨h3, h4⟩ := h1
        cases d <;> try (simp at h2; done)
        rename_i fs
        simp only at h2
        simp only [hz, h2]
        have h5 : z.cells.size = 129 := by rw [← Array.length_toList, h3]; simp [vals_length, zeros_length]
        generalize z.cells = zc at *
        simp only [Instr.fill, Value.cells]
        simp [h, h5]
        rw [fill_fold, h3, putAll_front _ _ _ (by rw [h, vals_length, zeros_length])]
theorem Try.zero_write : (Try.prog.info? 117).bind (fun i => i.zero.map (fun z => (z.cells.toList, i.size))) = some (Value.int .i64 0 :: vals (zeros 128), 129) := by kernel_rfl
theorem Try.places_write : (match Try.prog.underlying 117 with | some (.struct fs) => fs.toList.mapM (fun f => (Try.prog.info? f.type).map fun i => (f.offset, i.size)) | _ => none) = some [(0, 1), (1, 128)] := by kernel_rfl
theorem run_build_write (x : Int) (D : List Value) (h : D.length = 128) (w : World) : (Instr.build 117 #[(0, .int .i64 x), (1, .agg D.toArray)]).run Try.prog w = .ok (.agg (Value.int .i64 x :: D).toArray) w := by
  refine run_build w _ _ _ ?_
  have h1 := Try.zero_write
  have h2 := Try.places_write
  unfold Program.built
  cases hi : Try.prog.info? 117 with
  | none => rw [hi] at h1; cases h1
  | some it =>
    rw [hi] at h1
    cases hu : Try.prog.underlying 117 with
    | none => rw [hu] at h2; cases h2
    | some d =>
      rw [hu] at h2
      cases hz : it.zero with
      | none => simp [hz] at h1
      | some z =>
        simp [hz] at h1
        obtain ⟨h3, h4⟩ := h1
        cases d <;> try (simp at h2; done)
        rename_i fs
        simp only at h2
        simp only [hz, h2]
        have h5 : z.cells.size = 129 := by rw [← Array.length_toList, h3]; simp [vals_length, zeros_length]
        generalize z.cells = zc at *
        simp only [Instr.fill, Value.cells]
        simp [h, h5]
        rw [fill_fold1, Array.toList_setIfInBounds, h3]
        have e := putAll_mid D [Value.int .i64 x] (vals (zeros 128)) [] (by rw [h, vals_length, zeros_length])
        rw [List.append_nil, List.append_nil] at e
        exact congrArg List.toArray e
end Go.Proofs.Ytilmicekpclmbaa
namespace Go.Proofs.Ytilmicekpclmbaa
set_option linter.unusedVariables false
set_option linter.unusedSimpArgs false
open Go.RowKit

/-- A write lands in its block. -/
theorem Lay.landed {w : World} {F : Nat → Prop} {b : Nat} {s : Dk} {g cb : Nat} {A : Option Addr} {c : Nat} (h : Lay w F b s g cb A c) (p : Nat × List Int) (hi : p.1 < s.blk.length) (hx : IsBlk p.2) (w' : World) (hk : Keep (fun _ => False) w w') :
    Lay (w'.setCells g (p.1 * 129) (vals p.2 ++ [Value.bool false])) F b (s.land p) g cb A c where
  ok := h.ok.land p hx
  st := by
    have e : dkCells (s.land p) g cb A c = dkCells s g cb A c := by unfold dkCells; rw [s.land_len]; rfl
    rw [e]
    exact h.st.same (by rw [heap_setCells _ _ (fun e => h.bg e.symm), hk.block _ h.st.lt (fun e => e)])
  rb := by
    have h1 : RowN w' 0 130 129 (some ⟨g, 0, none⟩) s.blk.length cb (bl s).flatten := h.rb.same (fun a ha => hk.block _ (h.rb.lt a ha).2 (fun e => e))
    have h2 := RowN.puts (vals p.2 ++ [Value.bool false]) (p.1 * 129) h1
    rw [(bl_even h.ok).whole p.1 _ (by rw [bl_len h.ok]; exact hi) (by rw [List.length_append, vals_length, hx.1]; rfl), ← bl_land h.ok p hi] at h2
    rw [s.land_len]
    exact h2
  rw' := h.rw'.same (fun a ha => by rw [heap_setCells _ _ (h.gA a ha), hk.block _ (h.rw'.lt a ha).2 (fun e => e)])
  fb := h.fb
  fg := h.fg
  fA := h.fA
  lt := fun j hj => by rw [size_setCells]; exact Nat.lt_of_lt_of_le (h.lt j hj) hk.size
theorem run_store_block (D : List Value) (b o : Nat) (w : World) (h : D.length = 128) (h1 : ∀ v ∈ D, v.oneCell' = true) (ht : w.there b o 129) : (Instr.storeAt 130 (.pointer (some ⟨b, o, none⟩)) (.agg (D ++ [Value.bool false]).toArray)).run Try.prog w = .ok () (w.setCells b o (D ++ [Value.bool false])) := by
  have hl : (D ++ [Value.bool false]).toArray.size = 129 := by simp [h]
  have := run_storeAt_mid (P := Try.prog) w b o 130 (D ++ [Value.bool false]).toArray (by rw [hl]; exact ht) (by rw [hl]; exact Try.size_block) (all_oneCell_toArray (fun v hv => by
    rcases List.mem_append.1 hv with hv | hv
    · exact h1 v hv
    · rw [List.mem_singleton] at hv; subst hv; rfl))
  exact this
theorem Try.zero_block' : (Try.prog.info? 130).map (fun i => (i.zero, i.size)) = some (some (.agg (vals (zeros 128) ++ [Value.bool false]).toArray), 129) := by kernel_rfl
theorem zero_block_run : ∃ Z : Array Value, (∀ w, (zeroValue 130).run Try.prog w = .ok (.agg Z) w) ∧ Z.size = 129 ∧ ∀ D : List Value, D.length = 128 → List.foldl (fun (cs : Array Value) (x : Value × Nat) => cs.setIfInBounds x.2 x.1) Z D.zipIdx = (D ++ [Value.bool false]).toArray :=
  ⟨_, (zero_of_info Try.zero_block').1, by simp [vals_length, zeros_length], fun D hD => by rw [fill_fold, List.toList_toArray, putAll_front _ _ _ (by rw [hD, vals_length, zeros_length])]⟩
attribute [local go_sem ↓] Go.wp_at_zero Go.wp_at_succ

theorem store_cells (b o : Nat) (vs : List Value) (w : World) (ht : w.there b o vs.length) (h1 : ∀ v ∈ vs, v.oneCell' = true) : (storeCells ⟨b, o, none⟩ vs 0).run Try.prog w = .ok () (w.setCells b o vs) := by
  have := run_storeCells_cells (P := Try.prog) b o vs 0 w (fun j hj => by simpa using (ht j hj).1) (fun j hj => by simpa using (ht j hj).2) h1
  exact this
set_option maxRecDepth 100000 in
set_option maxHeartbeats 1000000 in
theorem put_any (F : Nat → Prop) (b : Nat) (s : Dk) (g cb : Nat) (A : Option Addr) (c : Nat) (p : Nat × List Int) (w : World) (h : Lay w F b s g cb A c) (hi : p.1 < s.blk.length) (hx : IsBlk p.2) :
    Calls Try.prog 59 #[.pointer (some ⟨b, 0, none⟩), .agg (wrow p).toArray] w fun e w' => e = .returned (.tuple #[]) ∧ Lay w' F b (s.land p) g cb A c ∧ Keep F w w' := by
  have L : Hid (∀ w', Keep (fun _ => False) w w' → Lay (w'.setCells g (p.1 * 129) (vals p.2 ++ [Value.bool false])) F b (s.land p) g cb A c) := Lib.hid (fun w' hk => h.landed p hi hx w' hk)
  have K : Hid (∀ w', Keep F w w' → Keep F w (w'.setCells g (p.1 * 129) (vals p.2 ++ [Value.bool false]))) := Lib.hid (fun w' hk => Keep.setCells h.fg _ _ hk)
  have c0 : w.cell? ⟨b, 0, none⟩ = some (.slice (some ⟨g, 0, none⟩) s.blk.length cb) := h.st.cell 0
  have ht := h.rb.there (bl_even h.ok) (bl_len h.ok) p.1 hi
  have hbl := h.st.lt
  have hgl : g < w.heap.size := (h.rb.lt _ rfl).2
  have hgb : b ≠ g := fun e => h.bg e.symm
  have hl : (vals p.2).length = 128 := by rw [vals_length]; exact hx.1
  have h1 : ∀ v ∈ vals p.2, v.oneCell' = true := fun v hv => vals_one _ v hv
  have hn := h.ok.n2
  obtain ⟨i, xs⟩ := p
  have hi : i < s.blk.length := hi
  have hu := Try.underlying115
  have hi' : (Try.prog.info? 115).map (·.size) = some (vals xs).length := by rw [hl]; exact Try.size_arr
  have i0 : (0 : Int) ≤ (i : Int) := by omega
  have i1 : (i : Int) < (s.blk.length : Int) := by omega
  unfold wrow
  dsimp only at *
  clear h hx
  generalize s.blk.length = m at *
  generalize vals xs = D at *
  go_enter Try.func59, Try.ntmps59
  go_wp2_with fail
  have y0 : (w.alloc (.cells (Value.int .i64 (i : Int) :: D).toArray 117)).cell? ⟨w.heap.size, 0, none⟩ = some (.int .i64 (i : Int)) := by rw [cell_of_row _ _ _ _ _ _ (heap_alloc_new w _)]; rfl
  have y1 : (w.alloc (.cells (Value.int .i64 (i : Int) :: D).toArray 117)).rangeAt w.heap.size 1 D := fun k v hv => by
    rw [cell_of_row _ _ _ _ _ _ (heap_alloc_new w _), Nat.add_comm]
    simpa using hv
  have y2 : (w.alloc (.cells (Value.int .i64 (i : Int) :: D).toArray 117)).cell? ⟨b, 0, none⟩ = some (.slice (some ⟨g, 0, none⟩) m cb) := by rw [World.cell?_alloc_lt _ _ _ hbl]; exact c0
  have y3 := World.there_alloc ht (.cells (Value.int .i64 (i : Int) :: D).toArray 117)
  have K0 : Hid (Keep (fun _ => False) w (w.alloc (.cells (Value.int .i64 (i : Int) :: D).toArray 117))) := Lib.hid ((Keep.refl _ w).alloc _)
  have KF : Hid (Keep F w (w.alloc (.cells (Value.int .i64 (i : Int) :: D).toArray 117))) := Lib.hid ((Keep.refl _ w).alloc _)
  generalize w.alloc (.cells (Value.int .i64 (i : Int) :: D).toArray 117) = w1 at *
  have hgH : w.heap.size ≠ g := by omega
  generalize w.heap.size = H at *
  clear c0 ht
  obtain ⟨Z, hz, hzs, hzf⟩ := zero_block_run
  have hzf := hzf D hl
  have hst : (storeCells ⟨g, i * 129, none⟩ (D ++ [Value.bool false]) 0).run Try.prog w1.drew = .ok () (w1.drew.setCells g (i * 129) (D ++ [Value.bool false])) := store_cells _ _ _ _ (by simp [hl]; exact y3) (fun v hv => by
    rcases List.mem_append.1 hv with hv | hv
    · exact h1 v hv
    · rw [List.mem_singleton] at hv; subst hv; rfl)
  have v2 : (w1.drew.setCells g (i * 129) (D ++ [Value.bool false])).cell? ⟨b, 0, none⟩ = some (.slice (some ⟨g, 0, none⟩) m cb) := by rw [World.cell?_setCells_out _ _ _ _ _ (fun e => absurd e hgb)]; exact y2
  have v0 : (w1.drew.setCells g (i * 129) (D ++ [Value.bool false])).cell? ⟨H, 0, none⟩ = some (.int .i64 (i : Int)) := by rw [World.cell?_setCells_out _ _ _ _ _ (fun e => absurd e hgH)]; exact y0
  have v1 : (w1.drew.setCells g (i * 129) (D ++ [Value.bool false])).rangeAt H 1 D := World.rangeAt_setCells_apart (by simpa using y1) _ _ _ (Or.inl hgH)
  have v3 : (w1.drew.setCells g (i * 129) (D ++ [Value.bool false])).there g (i * 129) 129 := World.there_setCells (by simpa using y3) _ _ _
  have V : Hid _ := Lib.hid (And.intro v2 (And.intro v0 (And.intro v1 v3)))
  clear v0 v1 v2 v3
  go_region_held_law (fun w' => w'.cell? ⟨b, 0, none⟩ = some (.slice (some ⟨g, 0, none⟩) m cb) ∧ w'.cell? ⟨H, 0, none⟩ = some (.int .i64 (i : Int)) ∧ w'.rangeAt H 1 D ∧ w'.there g (i * 129) 129)
    (first | exact ⟨y2, y0, y1, y3⟩ | exact V.out)
    (fail)
  go_end0
  exact ⟨rfl, L.out _ K0.out.drew, K.out _ KF.out.drew⟩
end Go.Proofs.Ytilmicekpclmbaa
