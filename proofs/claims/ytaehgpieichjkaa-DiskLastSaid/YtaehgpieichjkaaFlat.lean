/-
  Elements of equal length laid one behind the other in a row; a whole element read and written.
-/
import Derived.Test.YtaehgpieichjkaaMemN
import Derived.Test.YtaehgpieichjkaaDk
import Derived.Test.YtaehgpieichjkaaRefW
import Derived.Deep.MidRow
namespace Go.Proofs.Ytaehgpieichjkaa
set_option linter.unusedVariables false
set_option linter.unusedSimpArgs false
open Go.RowKit

def Even (z : Nat) (ls : List (List Value)) : Prop := ∀ l, l ∈ ls → l.length = z
theorem Even.tail {z : Nat} {l : List Value} {r : List (List Value)} (h : Even z (l :: r)) : Even z r := fun x hx => h x (by simp [hx])
theorem Even.head {z : Nat} {l : List Value} {r : List (List Value)} (h : Even z (l :: r)) : l.length = z := h l (by simp)
theorem Even.len {z : Nat} : ∀ {ls : List (List Value)}, Even z ls → ls.flatten.length = ls.length * z
  | [], _ => by simp
  | l :: r, h => by rw [List.flatten_cons, List.length_append, h.head, Even.len h.tail, List.length_cons, Nat.add_mul, Nat.one_mul, Nat.add_comm]
theorem Even.at {z : Nat} : ∀ {ls : List (List Value)}, Even z ls → ∀ (i k : Nat), i < ls.length → k < z → ls.flatten[i * z + k]? = (ls.getD i [])[k]?
  | [], _, i, k, hi, _ => by simp at hi
  | l :: r, h, 0, k, _, hk => by
    rw [List.flatten_cons, Nat.zero_mul, Nat.zero_add, List.getElem?_append_left (by rw [h.head]; exact hk)]
    rfl
  | l :: r, h, i + 1, k, hi, hk => by
    rw [List.flatten_cons, List.getElem?_append_right (by rw [h.head, Nat.add_mul]; omega), h.head]
    have e : (i + 1) * z + k - z = i * z + k := by rw [Nat.add_mul]; omega
    rw [e, Even.at h.tail i k (by simpa using hi) hk]
    rfl
theorem Even.put {z : Nat} : ∀ {ls : List (List Value)}, Even z ls → ∀ (i k : Nat) (v : Value), i < ls.length → k < z → ls.flatten.set (i * z + k) v = (ls.set i ((ls.getD i []).set k v)).flatten
  | [], _, i, k, v, hi, _ => by simp at hi
  | l :: r, h, 0, k, v, _, hk => by
    rw [List.flatten_cons, Nat.zero_mul, Nat.zero_add, List.set_append_left _ _ (by rw [h.head]; exact hk)]
    rfl
  | l :: r, h, i + 1, k, v, hi, hk => by
    rw [List.flatten_cons, List.set_append_right _ _ (by rw [h.head, Nat.add_mul]; omega), h.head]
    have e : (i + 1) * z + k - z = i * z + k := by rw [Nat.add_mul]; omega
    rw [e, Even.put h.tail i k v (by simpa using hi) hk]
    rfl
theorem mem_set_or {α : Type} {l : List α} {i : Nat} {x a : α} (h : a ∈ l.set i x) : a = x ∨ a ∈ l := by
  rcases List.mem_or_eq_of_mem_set h with h | h
  · exact Or.inr h
  · exact Or.inl h
theorem Even.set {z : Nat} {ls : List (List Value)} (h : Even z ls) (i : Nat) (x : List Value) (hx : x.length = z) : Even z (ls.set i x) := fun l hl => by
  rcases mem_set_or hl with rfl | hl
  · exact hx
  · exact h l hl
theorem Even.get {z : Nat} {ls : List (List Value)} (h : Even z ls) (i : Nat) (hi : i < ls.length) : (ls.getD i []).length = z := by
  rw [List.getD_eq_getElem?_getD, List.getElem?_eq_getElem hi]
  exact h _ (List.getElem_mem _)
/-- Many cells written from a place on. -/
def putAll : List Value → Nat → List Value → List Value
  | xs, _, [] => xs
  | xs, o, v :: r => putAll (xs.set o v) (o + 1) r
theorem getD_set_self (ls : List (List Value)) (i : Nat) (x : List Value) (hi : i < ls.length) : (ls.set i x).getD i [] = x := by
  rw [List.getD_eq_getElem?_getD, List.getElem?_set_self hi]; rfl
theorem Even.putAll {z : Nat} : ∀ (vs : List Value) {ls : List (List Value)}, Even z ls → ∀ (i k : Nat), i < ls.length → k + vs.length ≤ z → putAll ls.flatten (i * z + k) vs = (ls.set i (putAll (ls.getD i []) k vs)).flatten
  | [], ls, h, i, k, hi, hk => by
    show ls.flatten = (ls.set i (ls.getD i [])).flatten
    rw [List.getD_eq_getElem?_getD, List.getElem?_eq_getElem hi]
    show ls.flatten = (ls.set i ls[i]).flatten
    rw [List.set_getElem_self]
  | v :: r, ls, h, i, k, hi, hk => by
    have hk' : k + (r.length + 1) ≤ z := by simpa using hk
    have hl : (ls.getD i []).length = z := h.get i hi
    have e := Even.putAll r (h.set i ((ls.getD i []).set k v) (by rw [List.length_set]; exact hl)) i (k + 1) (by rw [List.length_set]; exact hi) (by omega)
    rw [getD_set_self _ _ _ hi, List.set_set] at e
    show Go.Proofs.Ytaehgpieichjkaa.putAll (ls.flatten.set (i * z + k) v) (i * z + (k + 1)) r = (ls.set i (Go.Proofs.Ytaehgpieichjkaa.putAll ((ls.getD i []).set k v) (k + 1) r)).flatten
    rw [h.put i k v hi (by omega)]
    exact e
theorem putAll_len : ∀ (vs xs : List Value) (o : Nat), (putAll xs o vs).length = xs.length
  | [], _, _ => rfl
  | v :: r, xs, o => by show (putAll (xs.set o v) (o + 1) r).length = _; rw [putAll_len r, List.length_set]
theorem putAll_app : ∀ (vs ps xs : List Value), xs.length = vs.length → putAll (ps ++ xs) ps.length vs = ps ++ vs
  | [], ps, xs, h => by rw [List.eq_nil_of_length_eq_zero h]; rfl
  | v :: r, ps, [], h => by simp at h
  | v :: r, ps, x :: xs, h => by
    show putAll ((ps ++ x :: xs).set ps.length v) (ps.length + 1) r = _
    rw [List.set_append_right _ _ (Nat.le_refl _), Nat.sub_self]
    have e := putAll_app r (ps ++ [v]) xs (by simpa using h)
    rw [List.length_append, List.append_assoc, List.append_assoc] at e
    exact e
theorem putAll_whole (vs xs : List Value) (h : xs.length = vs.length) : putAll xs 0 vs = vs := putAll_app vs [] xs h
/-- A whole element is written. -/
theorem Even.whole {z : Nat} {ls : List (List Value)} (h : Even z ls) (i : Nat) (vs : List Value) (hi : i < ls.length) (hv : vs.length = z) : Go.Proofs.Ytaehgpieichjkaa.putAll ls.flatten (i * z) vs = (ls.set i vs).flatten := by
  have e := h.putAll vs i 0 hi (by omega)
  rw [putAll_whole _ _ (by rw [h.get i hi, hv])] at e
  exact e

/-! ## In memory -/
theorem RowN.puts {base : Nat} {e : TypeId} {z n c g : Nat} : ∀ (vs : List Value) {w : World} {xs : List Value} (o : Nat), RowN w base e z (some ⟨g, 0, none⟩) n c xs → RowN (w.setCells g o vs) base e z (some ⟨g, 0, none⟩) n c (putAll xs o vs)
  | [], _, _, _, h => h
  | v :: r, _, _, o, h => RowN.puts r (o + 1) (h.set o v)
theorem heap_setCells (b k : Nat) (h : k ≠ b) : ∀ (vs : List Value) (o : Nat) (w : World), (w.setCells b o vs).heap[k]? = w.heap[k]?
  | [], _, _ => rfl
  | v :: r, o, w => by show ((w.setCell ⟨b, o, none⟩ v).setCells b (o + 1) r).heap[k]? = _; rw [heap_setCells b k h r, Below.heap_setCell _ _ _ _ h]
theorem size_setCells (b : Nat) : ∀ (vs : List Value) (o : Nat) (w : World), (w.setCells b o vs).heap.size = w.heap.size
  | [], _, _ => rfl
  | v :: r, o, w => by show ((w.setCell ⟨b, o, none⟩ v).setCells b (o + 1) r).heap.size = _; rw [size_setCells b r, setCell_size]
theorem Keep.setCells {F : Nat → Prop} {b : Nat} (hb : F b) : ∀ (vs : List Value) (o : Nat) {w w' : World}, Keep F w w' → Keep F w (w'.setCells b o vs)
  | [], _, _, _, h => h
  | v :: r, o, _, _, h => Keep.setCells hb r (o + 1) (h.setCell (a := ⟨b, o, none⟩) hb v)
theorem RowN.range {w : World} {base : Nat} {e : TypeId} {z n c g : Nat} {ls : List (List Value)} (h : RowN w base e z (some ⟨g, 0, none⟩) n c ls.flatten) (hE : Even z ls) (hn : ls.length = n) (i : Nat) (hi : i < n) : w.rangeAt g (i * z) (ls.getD i []) := fun k v hv => by
  have hk : k < z := by
    rcases Nat.lt_or_ge k z with e | e
    · exact e
    · rw [List.getElem?_eq_none (by rw [hE.get i (by omega)]; exact e)] at hv; cases hv
  obtain ⟨g', e1, h1⟩ := h.at (by omega)
  injection e1 with e1
  injection e1 with e1
  subst e1
  have hm : (i + 1) * z ≤ n * z := Nat.mul_le_mul_right z hi
  rw [Nat.add_mul] at hm
  rw [(h1 (i * z + k)).2 (by omega), hE.at i k (by omega) hk]
  exact hv
theorem RowN.there {w : World} {base : Nat} {e : TypeId} {z n c g : Nat} {ls : List (List Value)} (h : RowN w base e z (some ⟨g, 0, none⟩) n c ls.flatten) (hE : Even z ls) (hn : ls.length = n) (i : Nat) (hi : i < n) : w.there g (i * z) z := fun k hk => by
  obtain ⟨g', e1, h1⟩ := h.at (by omega)
  injection e1 with e1
  injection e1 with e1
  subst e1
  refine ⟨?_, (h1 _).1⟩
  have hr := h.range hE hn i hi k ((ls.getD i [])[k]'(by rw [hE.get i (by omega)]; exact hk)) (List.getElem?_eq_getElem _)
  rw [hr]
  rfl

/-! ## The blocks, and what waits -/
def bl (s : Dk) : List (List Value) := List.zipWith (fun x t => vals x ++ [Value.bool t]) s.blk s.bad
def wrow (p : Nat × List Int) : List Value := Value.int .i64 (p.1 : Int) :: vals p.2
def wl (l : List (Nat × List Int)) : List (List Value) := l.map wrow
theorem bl_len {s : Dk} (h : s.Ok) : (bl s).length = s.blk.length := by unfold bl; rw [List.length_zipWith, h.nb]; simp
theorem wl_len (l : List (Nat × List Int)) : (wl l).length = l.length := by unfold wl; rw [List.length_map]
theorem bl_getD {s : Dk} (h : s.Ok) (i : Nat) (hi : i < s.blk.length) : (bl s).getD i [] = vals (s.blk.getD i []) ++ [Value.bool (s.bad.getD i false)] := by
  unfold bl
  rw [List.getD_eq_getElem?_getD, List.getElem?_zipWith, List.getD_eq_getElem?_getD, List.getD_eq_getElem?_getD, List.getElem?_eq_getElem hi, List.getElem?_eq_getElem (by rw [h.nb]; exact hi)]
  rfl
theorem wl_getD (l : List (Nat × List Int)) (i : Nat) (hi : i < l.length) : (wl l).getD i [] = wrow (l.getD i (0, [])) := by
  unfold wl
  rw [List.getD_eq_getElem?_getD, List.getElem?_map, List.getD_eq_getElem?_getD, List.getElem?_eq_getElem hi]
  rfl
theorem bl_even {s : Dk} (h : s.Ok) : Even 129 (bl s) := fun l hl => by
  obtain ⟨i, hi, rfl⟩ := List.mem_iff_getElem.1 hl
  have hi' : i < s.blk.length := by rw [bl_len h] at hi; exact hi
  have e := bl_getD h i hi'
  rw [List.getD_eq_getElem?_getD, List.getElem?_eq_getElem hi] at e
  have e : (bl s)[i] = _ := e
  rw [e, List.length_append, vals_length, (h.blks i hi').1]
  rfl
theorem wl_even {l : List (Nat × List Int)} (h : ∀ p, p ∈ l → IsBlk p.2) : Even 129 (wl l) := fun x hx => by
  unfold wl at hx
  rw [List.mem_map] at hx
  obtain ⟨p, hp, rfl⟩ := hx
  show (Value.int .i64 (p.1 : Int) :: vals p.2).length = 129
  rw [List.length_cons, vals_length, (h p hp).1]
theorem zip_set {α β γ : Type} (f : α → β → γ) (l : List α) (r : List β) (i : Nat) (x : α) (y : β) (hi : i < l.length) (hr : r.length = l.length) : List.zipWith f (l.set i x) (r.set i y) = (List.zipWith f l r).set i (f x y) := by
  apply List.ext_getElem?
  intro k
  rw [List.getElem?_zipWith, List.getElem?_set, List.getElem?_set, List.getElem?_set, List.length_zipWith, List.getElem?_zipWith]
  by_cases e : i = k
  · subst e
    simp [hi, hr]
  · simp [e]
theorem bl_land {s : Dk} (h : s.Ok) (p : Nat × List Int) (hp : p.1 < s.blk.length) : bl (s.land p) = (bl s).set p.1 (vals p.2 ++ [Value.bool false]) := zip_set _ _ _ _ _ _ hp h.nb
theorem set_self {α : Type} (l : List α) (i : Nat) (d : α) (hi : i < l.length) : l.set i (l.getD i d) = l := by
  rw [List.getD_eq_getElem?_getD, List.getElem?_eq_getElem hi]
  exact List.set_getElem_self _
theorem bl_tear {s : Dk} (h : s.Ok) (i : Nat) (hp : i < s.blk.length) : bl (s.tear i) = (bl s).set i (vals (s.blk.getD i []) ++ [Value.bool true]) := by
  have e := zip_set (fun (x : List Int) t => vals x ++ [Value.bool t]) s.blk s.bad i (s.blk.getD i []) true hp h.nb
  rw [set_self s.blk i [] hp] at e
  exact e
/-- A block's bytes anew. -/
theorem bl_byte {s : Dk} (h : s.Ok) (i : Nat) (ys : List Int) (hp : i < s.blk.length) : bl { s with blk := s.blk.set i ys } = (bl s).set i (vals ys ++ [Value.bool (s.bad.getD i false)]) := by
  have e := zip_set (fun (x : List Int) t => vals x ++ [Value.bool t]) s.blk s.bad i ys (s.bad.getD i false) hp h.nb
  rw [set_self s.bad i false (by rw [h.nb]; exact hp)] at e
  exact e
end Go.Proofs.Ytaehgpieichjkaa
