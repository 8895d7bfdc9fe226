/-
  The program's disk: put, Flush, Boot.
-/
import Derived.Test.YtaehgpieichjkaaDAa
import Derived.Deep.RegionHeldLaw
import Derived.Deep.RegionHeld3
import Derived.Deep.DrawnRows
import Derived.Deep.WholeRow
namespace Go.Proofs.Ytaehgpieichjkaa
set_option linter.unusedVariables false
set_option linter.unusedSimpArgs false
open Go.RowKit

theorem Try.size_arr : (Try.prog.info? 63).map (·.size) = some 128 := by kernel_rfl
theorem Try.size_block : (Try.prog.info? 68).map (·.size) = some 129 := by kernel_rfl
theorem Try.size_write : (Try.prog.info? 65).map (·.size) = some 129 := by kernel_rfl
theorem putAll_mid : ∀ (vs ps xs rs : List Value), xs.length = vs.length → putAll (ps ++ (xs ++ rs)) ps.length vs = ps ++ (vs ++ rs)
  | [], ps, xs, rs, h => by rw [List.eq_nil_of_length_eq_zero h]; rfl
  | v :: r, ps, [], rs, h => by simp at h
  | v :: r, ps, x :: xs, rs, h => by
    show putAll ((ps ++ x :: (xs ++ rs)).set ps.length v) (ps.length + 1) r = _
    rw [List.set_append_right _ _ (Nat.le_refl _), Nat.sub_self]
    have e := putAll_mid r (ps ++ [v]) xs rs (by simpa using h)
    rw [List.length_append, List.append_assoc, List.append_assoc] at e
    exact e
theorem putAll_front (vs xs rs : List Value) (h : xs.length = vs.length) : putAll (xs ++ rs) 0 vs = vs ++ rs := putAll_mid vs [] xs rs h
theorem fill_fold : ∀ (vs : List Value) (k : Nat) (xs : Array Value), (vs.zipIdx k).foldl (fun (cs : Array Value) (c : Value × Nat) => cs.setIfInBounds c.2 c.1) xs = (putAll xs.toList k vs).toArray
  | [], k, xs => by simp [putAll]
  | v :: r, k, xs => by
    rw [List.zipIdx_cons, List.foldl_cons, fill_fold r (k + 1)]
    show _ = (putAll (xs.toList.set k v) (k + 1) r).toArray
    rw [Array.toList_setIfInBounds]
theorem fill_fold1 : ∀ (vs : List Value) (k : Nat) (xs : Array Value), (vs.zipIdx k).foldl (fun (cs : Array Value) (c : Value × Nat) => cs.setIfInBounds (1 + c.2) c.1) xs = (putAll xs.toList (1 + k) vs).toArray
  | [], k, xs => by simp [putAll]
  | v :: r, k, xs => by
    rw [List.zipIdx_cons, List.foldl_cons, fill_fold1 r (k + 1)]
    show _ = (putAll (xs.toList.set (1 + k) v) (1 + k + 1) r).toArray
    rw [Array.toList_setIfInBounds]
    rfl
theorem Try.zero_block : (Try.prog.info? 68).bind (fun i => i.zero.map (fun z => (z.cells.toList, i.size))) = some (vals (zeros 128) ++ [Value.bool false], 129) := by kernel_rfl
theorem Try.places_block : (match Try.prog.underlying 68 with | some (.struct fs) => fs.toList.mapM (fun f => (Try.prog.info? f.type).map fun i => (f.offset, i.size)) | _ => none) = some [(0, 128), (128, 1)] := by kernel_rfl
theorem run_build_block (D : List Value) (h : D.length = 128) (w : World) : (Instr.build 68 #[(0, .agg D.toArray)]).run Try.prog w = .ok (.agg (D ++ [Value.bool false]).toArray) w := by
  refine run_build w _ _ _ ?_
  have h1 := Try.zero_block
  have h2 := Try.places_block
  unfold Program.built
  cases hi : Try.prog.info? 68 with
  | none => rw [hi] at h1; cases h1
  | some it =>
    rw [hi] at h1
    cases hu : Try.prog.underlying 68 with
    | none => rw [hu] at h2; cases h2
    | some d =>
      rw [hu] at h2
      cases hz : it.zero with
      | none => simp [hz] at h1
      | some z =>
        simp [hz] at h1
        obtain ⟨h3, h4⟩ := h1
        cases d <;> try (simp at h2; done)
        rename_i fs
        simp only at h2
        simp only [hz, h2]
        have h5 : z.cells.size = 129 := by rw [← Array.length_toList, h3]; simp [vals_length, zeros_length]
        generalize z.cells = zc at *
        simp only [Instr.fill, Value.cells]
        simp [h, h5]
        rw [fill_fold, h3, putAll_front _ _ _ (by rw [h, vals_length, zeros_length])]
theorem Try.zero_write : (Try.prog.info? 65).bind (fun i => i.zero.map (fun z => (z.cells.toList, i.size))) = some (Value.int .i64 0 :: vals (zeros 128), 129) := by kernel_rfl
theorem Try.places_write : (match Try.prog.underlying 65 with | some (.struct fs) => fs.toList.mapM (fun f => (Try.prog.info? f.type).map fun i => (f.offset, i.size)) | _ => none) = some [(0, 1), (1, 128)] := by kernel_rfl
theorem run_build_write (x : Int) (D : List Value) (h : D.length = 128) (w : World) : (Instr.build 65 #[(0, .int .i64 x), (1, .agg D.toArray)]).run Try.prog w = .ok (.agg (Value.int .i64 x :: D).toArray) w := by
  refine run_build w _ _ _ ?_
  have h1 := Try.zero_write
  have h2 := Try.places_write
  unfold Program.built
  cases hi : Try.prog.info? 65 with
  | none => rw [hi] at h1; cases h1
  | some it =>
    rw [hi] at h1
    cases hu : Try.prog.underlying 65 with
    | none => rw [hu] at h2; cases h2
    | some d =>
      rw [hu] at h2
      cases hz : it.zero with
      | none => simp [hz] at h1
      | some z =>
        simp [hz] at h1
        obtain ⟨h3, h4⟩ := h1
        cases d <;> try (simp at h2; done)
        rename_i fs
        simp only at h2
        simp only [hz, h2]
        have h5 : z.cells.size = 129 := by rw [← Array.length_toList, h3]; simp [vals_length, zeros_length]
        generalize z.cells = zc at *
        simp only [Instr.fill, Value.cells]
        simp [h, h5]
        rw [fill_fold1, Array.toList_setIfInBounds, h3]
        have e := putAll_mid D [Value.int .i64 x] (vals (zeros 128)) [] (by rw [h, vals_length, zeros_length])
        rw [List.append_nil, List.append_nil] at e
        exact congrArg List.toArray e
end Go.Proofs.Ytaehgpieichjkaa
