/-
  Whole catalogs in a walk: read, a leaf of two numbers built, a leaf returned alone.
-/
import Derived.Test.YtoolmmjiemkpbaaCA
import Derived.Test.YtoolmmjiemkpbaaFBuild
namespace Go.Proofs.Ytoolmmjiemkpbaa
set_option linter.unusedVariables false
set_option linter.unusedSimpArgs false
set_option maxRecDepth 100000
open Go.RowKit

theorem Try.size_ct : (Try.prog.info? 27).map (·.size) = some 9 := by kernel_rfl
theorem CtAt.range {w : World} {b : Nat} {c : Ct} {A : Option Addr} {n cap : Nat} (h : CtAt w b c A n cap) : w.rangeAt b 0 (ctv c A n cap) := fun j v hv => by rw [Arr.cell h, Nat.zero_add]; exact hv
section
variable {ops : Array Oper} {rs : List Oper} {o : Oper} {a : Act} {w : World} {Q : Exit → Act → World → Prop}
theorem load_ct (hgd : o.guard = none) (x : Operand) (ho : o.op = .load 27 x) (b : Nat) (c : Ct) (A : Option Addr) (n cap : Nat) (hL : CtAt w b c A n cap) (hx : a.eval x = .pointer (some ⟨b, 0, none⟩))
    (h : wpList Try.prog ops Q rs (a.put o.dst (.agg (ctv c A n cap).toArray)) w) : wpList Try.prog ops Q (o :: rs) a w :=
  wpList_load_mid hgd _ x ho b 0 hx (ctv c A n cap) _ hL.range Try.underlying27 rfl Try.size_ct h
theorem built_two (k s : Int) : Try.prog.built 82 [(0, .int .i64 k), (4, .int .i64 s)] = some (lv ⟨k, 0, 0, 0, s, zeros 116⟩).toArray := by
  have h1 := Try.zero_leaf
  have h2 := Try.places_leaf
  unfold Program.built
  cases hi : Try.prog.info? 82 with
  | none => rw [hi] at h1; cases h1
  | some it =>
    rw [hi] at h1
    simp at h1
    cases hu : Try.prog.underlying 82 with
    | none => rw [hu] at h2; cases h2
    | some d =>
      rw [hu] at h2
      cases d <;> try (simp at h2; done)
      rename_i fs
      simp only at h2
      simp only [h1.1, h2]
      simp [Instr.fill, Value.cells, lv, Lf.zero, zeros]
theorem build_two (hgd : o.guard = none) (x0 x4 : Operand) (ho : o.op = .build 82 #[(0, x0), (4, x4)]) (k s : Int) (h0 : a.eval x0 = .int .i64 k) (h4 : a.eval x4 = .int .i64 s)
    (h : wpList Try.prog ops Q rs (a.put o.dst (.agg (lv ⟨k, 0, 0, 0, s, zeros 116⟩).toArray)) w) : wpList Try.prog ops Q (o :: rs) a w :=
  wpList_plain hgd fun K hK => by
    unfold Oper.wp execOp
    have e : (#[(0, x0), (4, x4)] : Array (Nat × Operand)).map (fun x => (x.1, a.eval x.2)) = #[(0, .int .i64 k), (4, .int .i64 s)] := by simp [h0, h4]
    simp only [ho, e, run_build w 82 #[(0, .int .i64 k), (4, .int .i64 s)] _ (built_two k s), Sem.run_bind, Sem.run_pure, Result.andThen_ok]
    exact hK _ _ h
end
/-- A leaf alone is returned. -/
theorem ret_one {fn : Func} {R : Ending → World → Prop} {a : Act} {w : World} {b : Nat} {L : Lf} (i : Nat) (hf : fn.results = #[.cell i 82]) (hi : a.tmps.getD i undef = .pointer (some ⟨b, 0, none⟩)) (h : LfAt w b L) (hd : a.defers = [])
    (hR : R (.returned (.agg (lv L).toArray)) w) : bodyPost Try.prog fn R .ret a w := by
  refine bodyPost_ret (v := .agg (lv L).toArray) ?_ hd hR
  unfold results
  rw [hf]
  rw [Array.getD_eq_getD_getElem?] at hi
  simp [hi, asAddr, load_run h]
/-- What Put answers. -/
noncomputable def Ct.putL (c : Ct) : Lf := open Classical in if c.Right then c.leaf else Lf.zero
theorem Ct.putL_yes {c : Ct} (h : c.Right) : c.putL = c.leaf := by unfold Ct.putL; rw [if_pos h]
theorem Ct.putL_no {c : Ct} (h : ¬ c.Right) : c.putL = Lf.zero := by unfold Ct.putL; rw [if_neg h]
theorem Ct.putL_ok (c : Ct) : c.putL.Ok := by
  by_cases h : c.Right
  · rw [Ct.putL_yes h]; exact Ct.leaf_ok h
  · rw [Ct.putL_no h]; exact Lf.zero_ok
theorem flBytes_snoc (l : List Fl) (i : Nat) (hi : i < l.length) : flBytes (l.take (i + 1)) = flBytes (l.take i) ++ (flAt l i).bytes := by
  rw [List.take_succ_eq_append_getElem hi]
  unfold flBytes
  rw [List.flatMap_append]
  congr 1
  unfold flAt
  rw [List.getD_eq_getElem?_getD, List.getElem?_eq_getElem hi]
  simp
end Go.Proofs.Ytoolmmjiemkpbaa
