/-
  The contract of package catalog's With: the files of put in the place of those of their names, without those of the names in gone; in new memory.
  The contracts of package catalog's number and readFiles: a number of bytes, the lowest first; each whole file of the bytes, in new memory.
-/
import Derived.Test.YtilmicekpclmbaaZA
import Derived.Test.YtilmicekpclmbaaCPd
import Derived.Test.YtilmicekpclmbaaZv
namespace Go.Proofs.Ytilmicekpclmbaa
set_option linter.unusedVariables false
set_option linter.unusedSimpArgs false
set_option maxRecDepth 100000
open Go.RowKit

theorem CtAt.fk {w w' : World} {b n cap g' : Nat} {c : Ct} {A A3 : Option Addr} (h : CtAt w b c A n cap) (k : FlKeep A3 g' w w') (hne : ∀ a, A3 = some a → b ≠ a.block) : CtAt w' b c A n cap := by
  unfold CtAt Arr at *
  rw [k.1.block b (by
    rcases Nat.lt_or_ge b w.heap.size with e | e
    · exact e
    · rw [Array.getElem?_eq_none (by exact e)] at h; cases h) (fun ⟨a, ha, e⟩ => hne a ha e)]
  exact h
theorem ct_ne_f {w : World} {b n cap base m c1 : Nat} {c : Ct} {A A1 : Option Addr} {l : List Fl} (h : CtAt w b c A n cap) (o : OwnF w base A1 m c1 l) (a : Addr) (ha : A1 = some a) : b ≠ a.block := fun e => (o.1.ne (r := b) (T := 37) h (by decide) a ha) e.symm
theorem ct_ne_i {w : World} {b n cap base m c1 : Nat} {c : Ct} {A A1 : Option Addr} {l : List Int} (h : CtAt w b c A n cap) (o : OwnI w base A1 m c1 l) (a : Addr) (ha : A1 = some a) : b ≠ a.block := fun e => (o.1.ne (r := b) (T := 37) h (by decide) a ha) e.symm
theorem f_ne_i {w : World} {base m c1 base' m' c' : Nat} {A1 A2 : Option Addr} {l : List Fl} {l' : List Int} (h : OwnF w base A1 m c1 l) (o : OwnI w base' A2 m' c' l') (a b : Addr) (ha : A1 = some a) (hb : A2 = some b) : a.block ≠ b.block := fun e => by
  obtain ⟨cur, hc⟩ := h.1.kind a ha
  exact (o.1.ne (r := a.block) (T := 40) hc (by decide) b hb) e.symm
theorem OwnI.weak {w : World} {base base' : Nat} {A : Option Addr} {n cap : Nat} {l : List Int} (h : OwnI w base A n cap l) (k : ∀ a, A = some a → base' ≤ a.block) : OwnI w base' A n cap l := ⟨h.1.weak k, h.2⟩
theorem OwnI.alloc {w : World} {base : Nat} {A : Option Addr} {n cap : Nat} {l : List Int} (h : OwnI w base A n cap l) (o : Obj) : OwnI (w.alloc o) base A n cap l := h.below ((Below.refl _ _).alloc (Nat.le_refl _) o)
theorem CtAt.alloc {w : World} {b n cap : Nat} {c : Ct} {A : Option Addr} (h : CtAt w b c A n cap) (o : Obj) : CtAt (w.alloc o) b c A n cap := h.below ((Below.refl _ _).alloc (Nat.le_refl _) o)
theorem OwnF.keep {w w' : World} {base n cap : Nat} {A : Option Addr} {l : List Fl} {F : Nat → Prop} (h : OwnF w base A n cap l) (k : Keep F w w') (hne : ∀ a, A = some a → ¬ F a.block) : OwnF w' base A n cap l := h.same (fun a ha => k.block a.block (h.lt a ha).2 (hne a ha))
theorem OwnI.keep {w w' : World} {base n cap : Nat} {A : Option Addr} {l : List Int} {F : Nat → Prop} (h : OwnI w base A n cap l) (k : Keep F w w') (hne : ∀ a, A = some a → ¬ F a.block) : OwnI w' base A n cap l := h.same (fun a ha => k.block a.block (h.lt a ha).2 (hne a ha))
/-- All that With has at hand. -/
structure WS (w wr : World) (b r : Nat) (c : Ct) (A : Option Addr) (n cap : Nat) (A1 : Option Addr) (m1 c1 : Nat) (lf : List Fl) (A2 : Option Addr) (m2 c2 : Nat) (li : List Int) : Prop where
  x : CtAt wr b c A n cap
  r : CtAt wr r Ct.zero none 0 0
  f : OwnF wr w.heap.size A1 m1 c1 lf
  i : OwnI wr w.heap.size A2 m2 c2 li
  b : Below w.heap.size w wr
theorem WS.below {w wr w' : World} {b r : Nat} {c : Ct} {A : Option Addr} {n cap : Nat} {A1 : Option Addr} {m1 c1 : Nat} {lf : List Fl} {A2 : Option Addr} {m2 c2 : Nat} {li : List Int} (h : WS w wr b r c A n cap A1 m1 c1 lf A2 m2 c2 li) (hb : Below wr.heap.size wr w') : WS w w' b r c A n cap A1 m1 c1 lf A2 m2 c2 li :=
  ⟨h.x.below hb, h.r.below hb, h.f.below hb, h.i.below hb, bstep h.b hb⟩
theorem WS.appI {w wr w' : World} {b r : Nat} {c : Ct} {A : Option Addr} {n cap : Nat} {A1 : Option Addr} {m1 c1 : Nat} {lf : List Fl} {A2 : Option Addr} {m2 c2 : Nat} {li li' : List Int} {g' cap' m' : Nat} (h : WS w wr b r c A n cap A1 m1 c1 lf A2 m2 c2 li) (o : OwnI w' w.heap.size (some ⟨g', 0, none⟩) m' cap' li') (k : FlKeep A2 g' wr w') : WS w w' b r c A n cap A1 m1 c1 lf (some ⟨g', 0, none⟩) m' cap' li' :=
  ⟨h.x.fk k (fun a ha => ct_ne_i h.x h.i a ha), h.r.fk k (fun a ha => ct_ne_i h.r h.i a ha), h.f.fk k (fun a b' ha hb => f_ne_i h.f h.i a b' ha hb), o, k.below (fun a ha => (h.i.lt a ha).1) h.b h.b.size⟩
theorem WS.appF {w wr w' : World} {b r : Nat} {c : Ct} {A : Option Addr} {n cap : Nat} {A1 : Option Addr} {m1 c1 : Nat} {lf lf' : List Fl} {A2 : Option Addr} {m2 c2 : Nat} {li : List Int} {g' cap' m' : Nat} (h : WS w wr b r c A n cap A1 m1 c1 lf A2 m2 c2 li) (o : OwnF w' w.heap.size (some ⟨g', 0, none⟩) m' cap' lf') (k : FlKeep A1 g' wr w') : WS w w' b r c A n cap (some ⟨g', 0, none⟩) m' cap' lf' A2 m2 c2 li :=
  ⟨h.x.fk k (fun a ha => ct_ne_f h.x h.f a ha), h.r.fk k (fun a ha => ct_ne_f h.r h.f a ha), o, h.i.fk k (fun a b' ha hb => fun e => f_ne_i h.f h.i b' a hb ha e.symm), k.below (fun a ha => (h.f.lt a ha).1) h.b h.b.size⟩
theorem WS.sortI {w wr w' : World} {b r : Nat} {c : Ct} {A : Option Addr} {n cap : Nat} {A1 : Option Addr} {m1 c1 : Nat} {lf : List Fl} {A2 : Option Addr} {m2 c2 : Nat} {li li' : List Int} (h : WS w wr b r c A n cap A1 m1 c1 lf A2 m2 c2 li) (o : OwnI w' w.heap.size A2 m2 c2 li') (k : Keep (blockOf A2) wr w') : WS w w' b r c A n cap A1 m1 c1 lf A2 m2 c2 li' :=
  ⟨h.x.keep k (fun ⟨a, ha, e⟩ => ct_ne_i h.x h.i a ha e), h.r.keep k (fun ⟨a, ha, e⟩ => ct_ne_i h.r h.i a ha e), h.f.keep k (fun a ha ⟨a', ha', e⟩ => f_ne_i h.f h.i a a' ha ha' e), o, k.below (fun q ⟨a, ha, e⟩ => by rw [e]; exact (h.i.lt a ha).1) h.b h.b.size⟩
theorem WS.sortF {w wr w' : World} {b r : Nat} {c : Ct} {A : Option Addr} {n cap : Nat} {A1 : Option Addr} {m1 c1 : Nat} {lf lf' : List Fl} {A2 : Option Addr} {m2 c2 : Nat} {li : List Int} (h : WS w wr b r c A n cap A1 m1 c1 lf A2 m2 c2 li) (o : OwnF w' w.heap.size A1 m1 c1 lf') (k : Keep (blockOf A1) wr w') : WS w w' b r c A n cap A1 m1 c1 lf' A2 m2 c2 li :=
  ⟨h.x.keep k (fun ⟨a, ha, e⟩ => ct_ne_f h.x h.f a ha e), h.r.keep k (fun ⟨a, ha, e⟩ => ct_ne_f h.r h.f a ha e), o, h.i.keep k (fun a ha ⟨a', ha', e⟩ => f_ne_i h.f h.i a' a ha' ha e.symm), k.below (fun q ⟨a, ha, e⟩ => by rw [e]; exact (h.f.lt a ha).1) h.b h.b.size⟩
/-- What is gathered of the catalog's own files. -/
def keepF (out : List Int) (fs : List Fl) : List Fl := fs.filter (fun f => !decide (f.name ∈ out))
theorem keepF_succ (out : List Int) (fs : List Fl) (i : Nat) (hi : i < fs.length) : keepF out (fs.take (i + 1)) = keepF out (fs.take i) ++ (if (flAt fs i).name ∈ out then [] else [flAt fs i]) := by
  unfold keepF
  rw [List.take_succ_eq_append_getElem hi, List.filter_append, flAt_get hi, List.filter_cons]
  by_cases h : (flAt fs i).name ∈ out
  · rw [if_neg (by simp [h]), if_pos h]; rfl
  · rw [if_pos (by simp [h]), if_neg h]; rfl
theorem keepF_len (out : List Int) (fs : List Fl) : (keepF out fs).length ≤ fs.length := List.length_filter_le _ _
theorem keepF_congr {o1 o2 : List Int} (h : ∀ z, z ∈ o1 ↔ z ∈ o2) (fs : List Fl) : keepF o1 fs = keepF o2 fs := by
  unfold keepF
  congr 1
  funext f
  have : decide (f.name ∈ o1) = decide (f.name ∈ o2) := by rw [decide_eq_decide]; exact h _
  rw [this]
theorem OwnF.cap {w : World} {base n cap : Nat} {A : Option Addr} {l : List Fl} (h : OwnF w base A n cap l) : n ≤ cap ∧ cap ≤ maxLen := h.1.cap
end Go.Proofs.Ytilmicekpclmbaa
namespace Go.Proofs.Ytilmicekpclmbaa
set_option linter.unusedVariables false
set_option linter.unusedSimpArgs false
set_option maxRecDepth 100000
open Go.RowKit

theorem numL_snoc : ∀ (xs : List Int) (x : Int), numL (xs ++ [x]) = numL xs + x * 256 ^ xs.length
  | [], x => by show 0 * 256 + x = 0 + x * 256 ^ 0; omega
  | y :: r, x => by
    show numL (r ++ [x]) * 256 + y = (numL r * 256 + y) + x * 256 ^ (r.length + 1)
    rw [numL_snoc r x, Int.pow_succ, Int.add_mul, Int.mul_assoc]
    omega
theorem or_high (a x : Int) (k : Nat) (hk : k < 4) (a0 : 0 ≤ a) (a1 : a < 256 ^ k) (x0 : 0 ≤ x) (x1 : x ≤ 255) : bits .or .i64 a (x * 2 ^ (8 * k)) = a + x * 256 ^ k := by
  obtain ⟨p, rfl⟩ : ∃ k : Nat, a = k := ⟨a.toNat, by omega⟩
  obtain ⟨y, rfl⟩ : ∃ y : Nat, x = y := ⟨x.toNat, by omega⟩
  have f : ∀ a b : Int, bits .or .i64 a b = IntKind.i64.wrap ((BitVec.ofInt 64 a ||| BitVec.ofInt 64 b).toNat : Nat) := fun _ _ => rfl
  have key : ∀ (s : Nat), s ≤ 24 → p < 2 ^ s → (BitVec.ofInt 64 (p : Int) ||| BitVec.ofInt 64 ((y : Int) * ((2 ^ s : Nat) : Int))).toNat = p + y * 2 ^ s := fun s hs hp => by
    have hb : 2 ^ s ≤ 2 ^ 24 := Nat.pow_le_pow_right (by decide) hs
    have hy : y * 2 ^ s ≤ 255 * 2 ^ 24 := Nat.mul_le_mul (by omega) hb
    have t2 : (BitVec.ofInt 64 ((y : Int) * ((2 ^ s : Nat) : Int))).toNat = y <<< s := by
      rw [BitVec.toNat_ofInt, Nat.shiftLeft_eq, ← Int.natCast_mul]
      generalize y * 2 ^ s = q at *
      omega
    have t1 : (BitVec.ofInt 64 (p : Int)).toNat = p := by
      rw [BitVec.toNat_ofInt]
      omega
    have e := Nat.shiftLeft_add_eq_or_of_lt (b := p) (i := s) hp y
    rw [BitVec.toNat_or, t1, t2, Nat.or_comm, ← e, Nat.shiftLeft_eq]
    omega
  have hk' : k = 0 ∨ k = 1 ∨ k = 2 ∨ k = 3 := by omega
  rcases hk' with rfl | rfl | rfl | rfl
  · have q := key 0 (by decide) (by have : ((p : Nat) : Int) < 1 := a1; show p < 1; omega)
    rw [f]
    have e : (y : Int) * 2 ^ (8 * 0) = (y : Int) * ((2 ^ 0 : Nat) : Int) := rfl
    rw [e, q]
    show IntKind.i64.wrap ((p + y * 1 : Nat) : Int) = (p : Int) + (y : Int) * 1
    have : ((p : Nat) : Int) < 1 := a1
    rw [IntWalk.i64_in _ (by omega)]; omega
  · have q := key 8 (by decide) (by have : ((p : Nat) : Int) < 256 := a1; show p < 256; omega)
    rw [f]
    have e : (y : Int) * 2 ^ (8 * 1) = (y : Int) * ((2 ^ 8 : Nat) : Int) := rfl
    rw [e, q]
    show IntKind.i64.wrap ((p + y * 256 : Nat) : Int) = (p : Int) + (y : Int) * 256
    have : ((p : Nat) : Int) < 256 := a1
    rw [IntWalk.i64_in _ (by omega)]; omega
  · have q := key 16 (by decide) (by have : ((p : Nat) : Int) < 65536 := a1; show p < 65536; omega)
    rw [f]
    have e : (y : Int) * 2 ^ (8 * 2) = (y : Int) * ((2 ^ 16 : Nat) : Int) := rfl
    rw [e, q]
    show IntKind.i64.wrap ((p + y * 65536 : Nat) : Int) = (p : Int) + (y : Int) * 65536
    have : ((p : Nat) : Int) < 65536 := a1
    rw [IntWalk.i64_in _ (by omega)]; omega
  · have q := key 24 (by decide) (by have : ((p : Nat) : Int) < 16777216 := a1; show p < 16777216; omega)
    rw [f]
    have e : (y : Int) * 2 ^ (8 * 3) = (y : Int) * ((2 ^ 24 : Nat) : Int) := rfl
    rw [e, q]
    show IntKind.i64.wrap ((p + y * 16777216 : Nat) : Int) = (p : Int) + (y : Int) * 16777216
    have : ((p : Nat) : Int) < 16777216 := a1
    rw [IntWalk.i64_in _ (by omega)]; omega
theorem shl_in (x : Int) (k : Nat) (hk : k < 4) (x0 : 0 ≤ x) (x1 : x ≤ 255) : wrap64 (x * 2 ^ (8 * k)) = x * 2 ^ (8 * k) := by
  have hk' : k = 0 ∨ k = 1 ∨ k = 2 ∨ k = 3 := by omega
  rcases hk' with rfl | rfl | rfl | rfl
  · exact IntWalk.wrap64_in _ (by show _ ≤ x * 1 ∧ x * 1 ≤ _; omega)
  · exact IntWalk.wrap64_in _ (by show _ ≤ x * 256 ∧ x * 256 ≤ _; omega)
  · exact IntWalk.wrap64_in _ (by show _ ≤ x * 65536 ∧ x * 65536 ≤ _; omega)
  · exact IntWalk.wrap64_in _ (by show _ ≤ x * 16777216 ∧ x * 16777216 ≤ _; omega)
set_option maxHeartbeats 800000 in
theorem num_any (N : Nat) (A : Option Addr) (n cap : Nat) (xs : List Int) (hl : xs.length = n) (hm : n ≤ 4) (w : World) (hr : RdB w N A xs) :
    Calls Try.prog 78 #[.slice A n cap] w fun e w' => e = .returned (.int .i64 (numL xs)) ∧ w = w' := by
  have HU : Hid (∀ k, k < xs.length → U8 (xs.getD k 0)) := Lib.hid (fun k hk => by obtain ⟨_, _, _, _, _, hu⟩ := hr k hk; exact hu)
  have HR := Lib.hid hr; have HL := Lib.hid hl
  clear hr hl
  go_enter Try.func78, Try.ntmps78
  go_wp2
  go_loop [3, 4, 5, 8] (fun c _ _ i => ∃ k : Nat, k ≤ n ∧ i = .int .i64 k ∧ c = .int .i64 (numL (xs.take k))) (fun _ _ _ i => n - (intOf i).toNat)
  case atStart => exact ⟨0, Nat.zero_le _, rfl, rfl⟩
  case round =>
    obtain ⟨k, hk, rfl, rfl⟩ := hrel
    by_cases hlt : k < n
    · have i1 : decide ((k : Int) < (n : Int)) = true := by rw [decide_eq_true_eq]; omega
      obtain ⟨bb, oo, rfl, hb, hc, hu⟩ := HR.out k (by rw [HL.out]; omega)
      obtain ⟨u0, u1⟩ := id hu
      have bd := numL_bd (xs.take k) k (by rw [List.length_take]; omega) (fun q hq => by
        have hq' := hq
        rw [List.length_take] at hq
        rw [getD_take _ _ _ hq']
        exact HU.out _ (by omega))
      have nx : Hid (numL (xs.take (k + 1)) = numL (xs.take k) + xs.getD k 0 * 256 ^ k) := Lib.hid (by
        have hk' : k < xs.length := by rw [HL.out]; exact hlt
        rw [List.take_succ_eq_append_getElem hk', numL_snoc, List.length_take, Nat.min_eq_left (by omega), List.getD_eq_getElem?_getD, List.getElem?_eq_getElem hk']
        rfl)
      obtain ⟨d0, d1⟩ := bd
      clear hu
      generalize numL (xs.take k) = M at *
      generalize xs.getD k 0 = x at *
      have oh := or_high M x k (by omega) d0 d1 u0 u1
      have sh := shl_in x k (by omega) u0 u1
      obtain ⟨R, hR⟩ : ∃ R, R = M + x * 256 ^ k := ⟨_, rfl⟩
      rw [← hR] at oh nx
      have SH := Lib.hid sh; have OH := Lib.hid oh
      clear hR d1 sh oh
      go_wp2
      go_round
      case rel => exact ⟨k + 1, by omega, by go_num, by rw [nx.out, SH.out, OH.out]⟩
      case measure => simp [intOf]; omega
    · obtain rfl : k = n := by omega
      have i1 : decide ((k : Int) < (k : Int)) = false := by simp
      have ET : Hid (xs.take k = xs) := Lib.hid (List.take_of_length_le (by rw [HL.out]; exact Nat.le_refl _))
      rw [ET.out]
      go_wp2
      go_ret
      exact ⟨rfl, rfl⟩
theorem num_at2 (N b o k cap : Nat) (ys : List Int) (W : World) (hr : RdB W N (some ⟨b, o, none⟩) ys) (hk : k + 1 < ys.length) (z : Nat) (hz : z = o + k) :
    Calls Try.prog 78 #[.slice (some ⟨b, z, none⟩) 2 cap] W fun e w' => e = .returned (.int .i64 (num2 ys k)) ∧ W = w' := by
  rw [← numL_two k hk, hz]
  exact num_any N _ 2 cap _ (by rw [List.length_take, List.length_drop]; omega) (by decide) W ((hr.skip k).take 2)
theorem num_at4 (N b o k cap : Nat) (ys : List Int) (W : World) (hr : RdB W N (some ⟨b, o, none⟩) ys) (hk : k + 3 < ys.length) (z : Nat) (hz : z = o + k) :
    Calls Try.prog 78 #[.slice (some ⟨b, z, none⟩) 4 cap] W fun e w' => e = .returned (.int .i64 (num4 ys k)) ∧ W = w' := by
  rw [← numL_four k hk, hz]
  exact num_any N _ 4 cap _ (by rw [List.length_take, List.length_drop]; omega) (by decide) W ((hr.skip k).take 4)
end Go.Proofs.Ytilmicekpclmbaa
