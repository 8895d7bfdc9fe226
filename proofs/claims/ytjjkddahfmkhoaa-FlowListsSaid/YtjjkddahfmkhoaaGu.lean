/-
  The functions that FlowLists hands over; texts of one byte, mapped and listed.
-/
import Derived.Laws.IdiomStrings
import Derived.Test.YtjjkddahfmkhoaaGr
namespace Go.Proofs.Ytjjkddahfmkhoaa
set_option linter.unusedVariables false
set_option linter.unusedSimpArgs false
set_option maxRecDepth 100000
open Go.RowKit Go.Shelf
attribute [local go_sem] Oper.semAt_some

/-- The text of one byte. -/
def oneB (z : Int) : ByteArray := ⟨#[UInt8.ofNat (z % 256).toNat]⟩
theorem conv_one (W : World) (z : Int) : (convert 42 9 (.slice (some ⟨W.heap.size, 0, none⟩) 1 1)).run Try.prog (W.alloc (.cells #[.int .u8 (z % 256)] 5)) = .ok (.string (oneB z)) (W.alloc (.cells #[.int .u8 (z % 256)] 5)) := by
  have h := run_convert_bytes_back (P := Try.prog) (W.alloc (.cells #[.int .u8 (z % 256)] 5)) 42 9 5 ⟨W.heap.size, 0, none⟩ 1 [UInt8.ofNat (z % 256).toNat] Try.underlying42 Try.underlying5 Try.underlying9 (fun j hj => by
    obtain rfl : j = 0 := by simpa using hj
    rw [add_zero', Arr.cell (Arr.new W 5 [.int .u8 (z % 256)]) 0]
    show some _ = some _
    have h0 := Int.emod_nonneg z (show (256 : Int) ≠ 0 by decide)
    have h1 := Int.emod_lt_of_pos z (show (0 : Int) < 256 by decide)
    simp only [List.getElem_cons_zero]
    rw [UInt8.toNat_ofNat']
    congr 2
    omega)
  exact h
def f3F (y x : Int) : Int := wrap64 (wrap64 (3 * y) + x)
def lowD (d x : Int) : Bool := decide (bits BinOp.and IntKind.i64 x 7 < d)
theorem fl1_any (x m : Int) (b : Nat) (w : World) (h : w.cell? ⟨b, 0, none⟩ = some (.int .i64 m)) : Calls Try.prog 20 #[.int .i64 x, .pointer (some ⟨b, 0, none⟩)] w fun e w' => e = .returned (.string (oneB (wrap64 (x + m)))) ∧ Below w.heap.size w w' := by
  have hc := conv_one
  go_enter Try.func20, Try.ntmps20
  go_wp2
  go_ret
  exact ⟨rfl, balloc _ _⟩
theorem fl2_any (x d : Int) (b : Nat) (w : World) (h : w.cell? ⟨b, 0, none⟩ = some (.int .i64 d)) : Calls Try.prog 22 #[.int .i64 x, .pointer (some ⟨b, 0, none⟩)] w fun e w' => e = .returned (.bool (lowD d x)) ∧ w' = w := by
  unfold lowD
  go_enter Try.func22, Try.ntmps22
  go_wp2
  go_ret
  exact ⟨rfl, rfl⟩
theorem fl3_any (x y : Int) (w : World) : Calls Try.prog 24 #[.int .i64 y, .int .i64 x] w fun e w' => e = .returned (.int .i64 (f3F y x)) ∧ w' = w := by
  unfold f3F
  go_enter Try.func24, Try.ntmps24
  go_wp2
  go_ret
  exact ⟨rfl, rfl⟩
/-- Texts mapped out of ints, and listed. -/
def LSs (g : Nat) (lb : Array Value) (It : Nat → Prop) (w : World) (xs : List ByteArray) : Prop := SeqF Try.prog g lb (fun x : ByteArray => #[Value.string x]) (fun _ _ => False) (fun pre _ _ => pre.length ≤ 50) (fun pre _ => pre = xs) (fun _ _ => True) It NoB w
theorem LS.mapsc {g : Nat} {lb : Array Value} {It : Nat → Prop} {w : World} {xs : List Int} (h : LS g lb It w xs) (eg : EN g) (F : Int → ByteArray) {gf : Nat} {lf : Array Value} (ef : EN gf) (ItF : Nat → Prop) (hItF : Low ItF w) (hf : ∀ x W, Keep (fun k => ¬ ItF k) w W → Calls Try.prog gf (#[.int .i64 x] ++ lf) W fun e w' => e = .returned (.string (F x)) ∧ Below W.heap.size W w') (d : ∀ k, It k → ¬ ItF k) :
    Calls Try.prog 19 #[.func (.func g) #[] lb, .func (.func gf) #[] lf] w fun e w' => ∃ sb fb It', e = .returned (.func (.func 49) #[] #[.pointer (some ⟨sb, 0, none⟩), .pointer (some ⟨fb, 0, none⟩)]) ∧ LSs 49 #[.pointer (some ⟨sb, 0, none⟩), .pointer (some ⟨fb, 0, none⟩)] It' w' (xs.map F) ∧ Below w.heap.size w w' := by
  refine (map_IS (.func g) #[] lb (.func gf) #[] lf w).mono ?_
  rintro e w' ⟨rfl, ⟨h1, h2⟩, b⟩
  have lowI : ∀ k, It k → k < w.heap.size := h.low
  refine ⟨_, _, _, rfl, SeqF.weaken (mapseq_IS (fun x : Int => Value.int .i64 x) (fun x : ByteArray => Value.string x) F (h.later b) w' (Keep.refl _ _) eg (Rp := fun pre _ _ => pre.length ≤ 50) (fun _ _ _ h => h) (fun _ _ _ _ _ h _ _ => h) ef ItF (fun k hk => Nat.lt_of_lt_of_le (hItF k hk) b.size) (fun _ x W _ k => hf x W (((Keep.of_below (F := fun _ => False) b).then k).more (fun q e => e.elim False.elim id))) _ _ h1 h2 (fun k hk => by have := lowI k hk; exact ⟨by omega, by omega, d k hk⟩)) (fun pre x W h => ?_) (fun ys W h => ?_) (fun _ _ _ => trivial) (fun _ h => h) (fun _ h => h.elim) (fun _ _ _ _ _ h _ _ => h) (fun _ _ _ _ h _ _ => h) (fun _ _ _ _ _ _ _ => trivial), b⟩
  · obtain ⟨prex, y, rfl, _, h⟩ := h
    rw [List.length_map]; exact h
  · obtain ⟨zs, rfl, h⟩ := h
    have h : zs = xs := h
    rw [h]
theorem LSs.list {g : Nat} {lb : Array Value} {It : Nat → Prop} {w : World} {xs : List ByteArray} (h : LSs g lb It w xs) (eg : EN g) : Calls Try.prog 18 #[.func (.func g) #[] lb] w fun e w' => ∃ Ar c, e = .returned (.slice Ar xs.length c) ∧ RowA w' 9 Ar c (xs.map Value.string) ∧ Below w.heap.size w w' := by
  refine (list_S h w (Keep.refl _ _) eg (fun _ A _ => ∀ k, ¬ A k) (fun _ _ _ _ h _ => h) (fun _ _ h => h) (fun pre x A W h _ _ k hk => hk.elim (h k) id) (fun pre x W h => by have h : pre.length ≤ 50 := h; omega)).mono ?_
  rintro e w' ⟨Ar, c, ys, AG, rfl, h1, ⟨h2, _⟩, _, _, k⟩
  have h1 : ys = xs := h1
  subst h1
  exact ⟨Ar, c, rfl, h2, ⟨k.os, k.tape, k.output, k.size, fun q hq => k.block q hq (fun h => h)⟩⟩
end Go.Proofs.Ytjjkddahfmkhoaa
