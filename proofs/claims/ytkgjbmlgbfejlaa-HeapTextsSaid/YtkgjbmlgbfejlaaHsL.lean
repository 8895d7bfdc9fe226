/-
  The contract of package heap's lay, for things of texts.
-/
import Derived.Test.YtkgjbmlgbfejlaaHs
import Derived.Test.YtkgjbmlgbfejlaaHg
import Derived.StillTailTactics
import Derived.IntWalk
import Derived.Deep.DeepCutAuto
namespace Go.Proofs.Ytkgjbmlgbfejlaa
set_option linter.unusedVariables false
set_option linter.unusedSimpArgs false
set_option maxRecDepth 100000
open Go.RowKit

def TX.fv (bd : Nat) : Value := .func (.func 20) #[] #[]
def TX.Less (w : World) (bd : Nat) : Prop := True
theorem TX.Less.below {w w' : World} {bd : Nat} (h : TX.Less w bd) (b : Below w.heap.size w w') : TX.Less w' bd := trivial
theorem TX.Less.set {w : World} {bd bp : Nat} {vs : List Value} (h : TX.Less w bd) (a : Arr w bp 75 vs) (k : Nat) (u : Value) : TX.Less (w.setCell ⟨bp, k, none⟩ u) bd := trivial
theorem TX.Less.keep {w w' : World} {bd : Nat} {F : Nat → Prop} (h : TX.Less w bd) (k : Keep F w w') (hn : F bd → ¬ (∃ cur, w.heap[bd]? = some (.cells cur TX.K.T (0, 0))) → False) : TX.Less w' bd := trivial
theorem TX.less_any (x y : ByteArray) (bd : Nat) (w : World) (h : TX.Less w bd) : Calls Try.prog 20 #[.string x, .string y] w fun e w' => e = .returned (.bool (decide (TX.K.key x < TX.K.key y))) ∧ Below w.heap.size w w' := by
  go_enter Try.func20, Try.ntmps20
  go_wp2
  go_ret
  exact ⟨by first | rfl | simp [TX.K], Below.refl _ _⟩
set_option maxHeartbeats 20000000 in
theorem TX.lay_any (bp bd n0 c0 : Nat) (s : Int) (A0 : Option Addr) (A : Option Addr) (n c : Nat) (l : List (En ByteArray)) (x : ByteArray) (At : Option Addr) (nt ct : Nat) (C : List ByteArray) (F : List Nat) (Ct : List ByteArray) (Ft : List Nat) (w : World)
    (hh : Arr w bp 75 [TX.fv bd, .int .i64 s, .slice A0 n0 c0]) (hq : TX.Less w bd) (hv : Vw TX.K w A n c l) (hf : Fo TX.K w l C F) (ht : Fo TX.K w [⟨x, At, nt, ct⟩] Ct Ft) (nd : (blk A ++ (F ++ Ft)).Nodup) (hd : Dn TX.K l) (hsz : C.length + Ct.length ≤ 1000) :
    Calls Try.prog 35 #[.pointer (some ⟨bp, 0, none⟩), .slice A n c, .agg #[.string x, .slice At nt ct]] w (Laid TX.K w A n c C F Ct Ft) := by
  have hn : n ≤ 1000 := by rw [← hv.len]; have := hf.len; omega
  have NT : Hid (nt ≤ 1000) := Lib.hid (by obtain ⟨es, C1, F1, a1, a2, a3, rfl, rfl, a4⟩ := ht.one; have h1 : es.length = nt := a1.len; have h2 := a2.len; simp at hsz; omega)
  have HH := Lib.hid hh; have HQ := Lib.hid hq; have HV := Lib.hid hv; have HF := Lib.hid hf; have HT := Lib.hid ht; have ND := Lib.hid nd; have HD := Lib.hid hd; have HS := Lib.hid hsz
  clear hh hq hv hf ht nd hd hsz
  go_enter Try.func35, Try.ntmps35
  go_upto_region 1 with fail
  obtain ⟨w1, hW⟩ : ∃ W, W = w.alloc (.cells #[.string x, .slice At nt ct] 78) := ⟨_, rfl⟩
  rw [← hW]
  obtain ⟨bt, hg⟩ : ∃ g, g = w.heap.size := ⟨_, rfl⟩
  rw [← hg]
  have B1 : Hid (Below w.heap.size w w1) := Lib.hid (by rw [hW]; exact (Below.refl _ _).alloc (Nat.le_refl _) _)
  have hs1 : w1.heap.size = bt + 1 := by rw [hW, hg]; simp
  have BX : Hid (Arr w1 bt 78 [.string x, .slice At nt ct]) := Lib.hid (by rw [hW, hg]; exact Arr.new w _ _)
  have HG := Lib.hid hg; have S1 := Lib.hid hs1
  clear hW hg hs1
  go_wp2_with fail
  go_loopw [7, 11] (fun _ iv wr => ∃ i : Nat, i ≤ n ∧ iv = .int .i64 i ∧ (∀ (j : Nat) (e : En ByteArray), j < i → l[j]? = some e → TX.K.key x ≤ TX.K.key e.x) ∧ Below w1.heap.size w1 wr) (fun _ iv _ => n - (intOf iv).toNat)
  case atStart => exact ⟨0, Nat.zero_le _, rfl, fun j e hj => by omega, Below.refl _ _⟩
  case round =>
    obtain ⟨i, hi, rfl, hall, bw⟩ := hrel
    have BW := Lib.hid (bstep B1.out bw)
    have BB := Lib.hid (bw)
    have AL := Lib.hid hall
    have X1 := Lib.hid (Arr.below BX.out bw)
    clear bw hall
    have HH1 := Lib.hid (Arr.below HH.out BW.out)
    have HQ1 := Lib.hid (HQ.out.below BW.out)
    have HV1 := Lib.hid (HV.out.below BW.out)
    have y0 := Arr.cell X1.out 0
    have z0 := Arr.cell HH1.out 0
    by_cases hlt : i < n
    · have i1 : decide ((i : Int) < (n : Int)) = true := by rw [decide_eq_true_eq]; omega
      obtain ⟨e, he⟩ : ∃ e, l[i]? = some e := ⟨_, List.getElem?_eq_getElem (by rw [HV.out.len]; exact hlt)⟩
      obtain ⟨g, o, rfl, hgw, hra, hfz⟩ := HV1.out.at he
      have he' := Lib.hid he; have HFZ := Lib.hid hfz; have HRA := Lib.hid hra
      have f0 : wr.cell? ⟨g, o + i * 2, none⟩ = some (.string e.x) := hra 0 _ rfl
      clear hra hfz he
      go_wp2
      have LS := Lib.hid (fun w2 (b : Below wr.heap.size wr w2) => TX.less_any e.x x bd w2 (HQ1.out.below b))
      have fz0 := HFZ.out (o + i * (1 + 1))
      unfold TX.fv at z0
      go_still_tail 11, (by kernel_rfl)
      change wpList _ _ _ _ _ wr.drew
      have BD : Hid (Below wr.heap.size wr wr.drew) := Lib.hid (Below.refl _ _).drew
      by_cases hk : TX.K.key e.x < TX.K.key x
      · have dk : decide (TX.K.key e.x < TX.K.key x) = true := by rw [decide_eq_true_eq]; exact hk
        rw [dk] at LS
        go_wp2_with fail
        refine (LS.out _ BD.out).mono ?_
        rintro e2 w2 ⟨rfl, b2⟩
        go_wp2_with fail
        have B2 : Hid (Below wr.heap.size wr w2) := Lib.hid (bstep BD.out b2)
        have X2 := Lib.hid (Arr.below X1.out B2.out)
        have HV2 := Lib.hid (HV1.out.below B2.out)
        have BW2 := Lib.hid (bstep BW.out B2.out)
        have HF2 := Lib.hid (HF.out.older BW2.out)
        have HT2 := Lib.hid (HT.out.older BW2.out)
        have hbt2 : bt < w2.heap.size := by have := BW2.out.size; have := (Arr.lt X2.out); omega
        have hg2 : g < w2.heap.size := HV2.out.lt g (by simp [blk])
        obtain ⟨g2, o2, hA2, hgw2, hra2, hfz2⟩ := HV2.out.at he'.out
        injection hA2 with hA2
        injection hA2 with hA2 hA3
        subst hA2 hA3
        have k2 : w2.cell? ⟨g, o + i * 2 + 1, none⟩ = some (.slice e.A e.n e.c) := hra2 1 _ rfl
        have k3 : w2.frozen? ⟨g, o + i * 2 + 1, none⟩ = false := hfz2 _
        have y0 := Arr.cell X2.out 0
        have y1 := Arr.cell X2.out 1
        have HFZ2 := Lib.hid hfz2; have HRA2 := Lib.hid hra2
        clear hra2 hfz2 hgw2 b2
        have nd2 : Hid ((F ++ Ft).Nodup) := Lib.hid (List.nodup_append.1 ND.out).2.1
        have W3 : Hid (Below w2.heap.size w2 ((w2.alloc (.cells #[.string ⟨#[]⟩, .slice none 0 0] 78)).drew)) := Lib.hid (((Below.refl _ _).alloc (Nat.le_refl _) _).drew)
        obtain ⟨es, hes, hAF, hesl, hont⟩ := Fo.onto (HF2.out.older W3.out) he'.out (HT2.out.older W3.out) hk nd2.out
        have VE := Lib.hid hes
        have RE : Hid (((w2.alloc (.cells #[.string ⟨#[]⟩, .slice none 0 0] 78)).drew).rangeAt w2.heap.size 0 (En.v TX.K ⟨(⟨#[]⟩ : ByteArray), none, 0, 0⟩)) := Lib.hid (fun j v hv => by
          rw [Nat.zero_add]
          have e1 : ((w2.alloc (.cells #[.string ⟨#[]⟩, .slice none 0 0] 78)).drew).cell? ⟨w2.heap.size, j, none⟩ = _ := cell_of_row _ _ j _ _ _ (heap_alloc_new w2 _)
          rw [e1, ← hv, ← Array.getElem?_toList]
          rfl)
        have ONT := Lib.hid hont; have AF := Lib.hid hAF
        have EL : Hid (es.length = e.n) := Lib.hid hes.len
        have hen : e.n ≤ 1000 := by have := HS.out; rw [← hes.len]; omega
        have GF : Hid (g ∉ F ++ Ft) := Lib.hid (fun q => (List.nodup_append.1 ND.out).2.2 g (by simp [blk]) g q rfl)
        have TF : Hid (bt ∉ F ++ Ft) := Lib.hid (fun q => by
          have := HG.out
          rcases List.mem_append.1 q with q | q
          · have := HF.out.lt bt q; omega
          · have := HT.out.lt bt q; omega)
        clear hes hont hAF hesl
        obtain ⟨An, hAn⟩ : ∃ An, e.A = An := ⟨_, rfl⟩
        obtain ⟨nn, hnn⟩ : ∃ nn, e.n = nn := ⟨_, rfl⟩
        obtain ⟨cn, hcn⟩ : ∃ cn, e.c = cn := ⟨_, rfl⟩
        rw [hAn] at VE AF ONT; rw [hnn] at VE EL ONT hen; rw [hcn] at VE ONT
        rw [hAn, hnn, hcn] at k2
        clear hAn hnn hcn
        have nl : (nn : Int) < (nn : Int) + 1 := by omega
        have K2 : Hid (((w2.alloc (.cells #[.string ⟨#[]⟩, .slice none 0 0] 78)).drew).cell? ⟨g, o + i * (1 + 1) + 1, none⟩ = some (.slice An nn cn)) := Lib.hid ((World.cell?_alloc_lt _ _ _ hg2).trans k2)
        have K3 : Hid (((w2.alloc (.cells #[.string ⟨#[]⟩, .slice none 0 0] 78)).drew).frozen? ⟨g, o + i * (1 + 1) + 1, none⟩ = false) := Lib.hid ((W3.out.frozen (p := ⟨g, o + i * (1 + 1) + 1, none⟩) hg2).trans k3)
        have FA : Hid (∀ (g' o' c' : Nat) (w3 : World), Vw TX.K w3 (some ⟨g', o', none⟩) (nn + 1) c' (es ++ [⟨(⟨#[]⟩ : ByteArray), none, 0, 0⟩]) → Grew TX.K ((w2.alloc (.cells #[.string ⟨#[]⟩, .slice none 0 0] 78)).drew) w3 An nn cn (some ⟨g', o', none⟩) c' → Laid TX.K w (some ⟨g, o, none⟩) n c C F Ct Ft (.returned (.slice (some ⟨g, o, none⟩) n c)) ((w3.setCells g' (o' + nn * (1 + 1)) [.string x, .slice At nt ct]).setCell ⟨g, o + i * (1 + 1) + 1, none⟩ (.slice (some ⟨g', o', none⟩) (nn + 1) c'))) := Lib.hid (fun g' o' c' w3 v gw => found_fin TX.ok (t := ⟨x, At, nt, ct⟩) (bstep BW2.out W3.out) HV.out he'.out HD.out ND.out (fun b hb => by
          rcases List.mem_append.1 hb with q | q
          · exact HF.out.lt b q
          · exact HT.out.lt b q) AF.out EL.out ONT.out v gw)
        have FB : Hid (∀ (g' o' c' : Nat) (w3 : World), Vw TX.K w3 (some ⟨g', o', none⟩) (nn + 1) c' (es ++ [⟨(⟨#[]⟩ : ByteArray), none, 0, 0⟩]) → Grew TX.K ((w2.alloc (.cells #[.string ⟨#[]⟩, .slice none 0 0] 78)).drew) w3 An nn cn (some ⟨g', o', none⟩) c' → Laid TX.K w (some ⟨g, o, none⟩) n c C F Ct Ft (.returned (.slice (some ⟨g, o, none⟩) n c)) ((w3.setCell ⟨g, o + i * (1 + 1) + 1, none⟩ (.slice (some ⟨g', o', none⟩) (nn + 1) c')).setCells g' (o' + nn * (1 + 1)) [.string x, .slice At nt ct])) := Lib.hid (fun g' o' c' w3 v gw => by
          rw [setCells_comm _ _ g' (fun q => by
            have q : g = g' := q
            rcases gw.blks g' (by simp [blk]) with q2 | q2
            · exact GF.out (by rw [q]; simp [AF.out g' q2])
            · have := W3.out.size; omega)]
          exact FA.out g' o' c' w3 v gw)
        -- A[
        go_region_law ((refine step_app TX.ok (by rfl) _ _ (by rfl) An nn cn es (by rfl) VE.out w2.heap.size 0 1 ⟨(⟨#[]⟩ : ByteArray), none, 0, 0⟩ (by rfl) RE.out (by omega) ?_; intro A' c' w3 v3 g3; obtain ⟨g', o', e4, hgl, hr3, hf3⟩ := v3.at (i := nn) (e := ⟨(⟨#[]⟩ : ByteArray), none, 0, 0⟩) (by rw [List.getElem?_append_right (by rw [EL.out]; exact Nat.le_refl _), EL.out, Nat.sub_self]; rfl); subst e4; have p0 : w3.cell? ⟨g', o' + nn * 2, none⟩ = some (.string ⟨#[]⟩) := hr3 0 _ rfl; have p1 : w3.cell? ⟨g', o' + nn * 2 + 1, none⟩ = some (.slice none 0 0) := hr3 1 _ rfl; have p9 : ∀ k, w3.frozen? ⟨g', k, none⟩ = false := hf3; have gb : g ∉ blk An := (fun q => GF.out (by simp [AF.out g q])); have gne : ¬ g' = g := (fun q => by rcases g3.blks g' (by simp [blk]) with q2 | q2; exact gb (by rw [← q]; exact q2); have q3 := W3.out.size; omega); have gne2 : ¬ g = g' := fun q => gne q.symm; have q1 : w3.cell? ⟨g, o + i * (1 + 1) + 1, none⟩ = some (.slice An nn cn) := (World.cell?_of_block (a := ⟨g, o + i * (1 + 1) + 1, none⟩) (g3.1.block g (Nat.lt_of_lt_of_le hg2 W3.out.size) gb)).trans K2.out; have q2 : w3.frozen? ⟨g, o + i * (1 + 1) + 1, none⟩ = false := (World.frozen?_of_block (a := ⟨g, o + i * (1 + 1) + 1, none⟩) (g3.1.block g (Nat.lt_of_lt_of_le hg2 W3.out.size) gb)).trans K3.out; have V3 := Lib.hid v3; have G3 := Lib.hid g3; have GB := Lib.hid gb; clear v3 g3 hr3 hf3 gb))
        all_goals
          go_wp2
          go_ret
          first | exact FA.out _ _ _ _ V3.out G3.out | exact FB.out _ _ _ _ V3.out G3.out
        -- A]
      · have dk : decide (TX.K.key e.x < TX.K.key x) = false := by rw [decide_eq_false_iff_not]; exact hk
        rw [dk] at LS
        have ALL : Hid (∀ (j : Nat) (e : En ByteArray), j < i + 1 → l[j]? = some e → TX.K.key x ≤ TX.K.key e.x) := Lib.hid (fun j e2 hj h2 => by
          by_cases hji : j = i
          · subst hji
            have h3 := he'.out
            rw [h2] at h3
            injection h3 with h3
            rw [h3]
            omega
          · exact AL.out j e2 (by omega) h2)
        clear hk
        go_wp2_with fail
        refine (LS.out _ BD.out).mono ?_
        rintro e2 w2 ⟨rfl, b2⟩
        have BN := Lib.hid (bstep BB.out (bstep BD.out b2))
        clear b2
        go_wp2_with fail
        go_roundw
        case rel => exact ⟨i + 1, by omega, by go_num, ALL.out, BN.out⟩
        case measure => simp [intOf]; omega
    · obtain rfl : i = n := by omega
      have i1 : decide ((i : Int) < (i : Int)) = false := by simp
      have hlt0 : Hid (∀ b, b ∈ F ++ Ft → b < w.heap.size) := Lib.hid (fun b hb => by
        rcases List.mem_append.1 hb with q | q
        · exact HF.out.lt b q
        · exact HT.out.lt b q)
      have hA0 : Hid (∀ b, b ∈ blk A → b < w.heap.size ∧ b ∉ F ++ Ft) := Lib.hid (fun b hb => ⟨HV.out.lt b hb, fun q => (List.nodup_append.1 ND.out).2.2 b hb b q rfl⟩)
      have L0 : Hid (LayS TX.K w bt A i c l C F Ct Ft x wr i At nt ct) := Lib.hid (LayS.start HG.out BW.out X1.out HV.out HF.out HT.out ND.out)
      clear X1 HH1 HQ1 HV1 BB y0 z0
      go_wp2
      go_loopw [8] (fun lv wr => ∃ (m : Nat) (A' : Option Addr) (n' c' : Nat), m ≤ i ∧ lv = .int .i64 ((m : Int) - 1) ∧ LayS TX.K w bt A i c l C F Ct Ft x wr m A' n' c') (fun lv _ => (intOf lv + 1).toNat)
      case atStart => exact ⟨i, At, nt, ct, Nat.le_refl _, rfl, L0.out⟩
      case round =>
        clear L0 BW
        obtain ⟨m, A', n', c', hm, rfl, ls⟩ := hrel
        have LS := Lib.hid ls
        clear ls
        have hrow := LS.out.row
        have HHr := Lib.hid (HH.out.keep (LS.out.keep) (fun q => by
          rcases List.mem_append.1 q with q | q
          · obtain ⟨cu, q2⟩ := HF.out.kind bp q
            exact arr_ne HH.out q2 (by decide)
          · obtain ⟨cu, q2⟩ := HT.out.kind bp q
            exact arr_ne HH.out q2 (by decide)))
        have HQr := Lib.hid (HQ.out.keep (LS.out.keep) (fun q hq => by
          rcases List.mem_append.1 q with q | q
          · exact hq (HF.out.kind bd q)
          · exact hq (HT.out.kind bd q)))
        have z0 := Arr.cell HHr.out 0
        unfold TX.fv at z0
        have hbtr := Arr.lt LS.out.box
        cases m with
        | zero =>
          have e0 : ((0 : Nat) : Int) - 1 = -1 := rfl
          rw [e0]
          clear e0
          have j1 : decide ((-1 : Int) ≥ 0) = false := by decide
          have j2 : decide ((0 : Int) ≤ -1) = false := by decide
          go_upto_region 9 with fail
          go_quiet (fail)
          have LX0 := Lib.hid (LS.out.below (belowN wr nq))
          obtain ⟨wx, hwx⟩ : ∃ wx, wx = wr.drewN nq := ⟨_, rfl⟩
          rw [← hwx] at LX0 ⊢
          have LX := LX0
          clear hwx LX0 LS
          go_wp2
          -- B[
          have hbx := Arr.lt LX.out.box
          have TB : Hid (∀ W, Keep (· ∈ blk A) wx W → W.rangeAt bt 0 (En.v TX.K ⟨x, A', n', c'⟩)) := Lib.hid (fun W k j v hv => by
            rw [Nat.zero_add, Arr.cell (Arr.keep LX.out.box k (fun q => by have := (hA0.out bt q).1; have := HG.out; omega)) j]
            exact hv)
          have DL : Hid (∀ W, Below wx.heap.size wx W → Calls Try.prog 37 #[.slice A i c, .int .i64 0, .int .i64 i] W fun e w' => e = .returned (.slice A 0 c) ∧ Vw TX.K w' A 0 c (l.take 0) ∧ Keep (· ∈ blk A) W w' ∧ Out TX.K W w' A i) := Lib.hid (fun W b => TX.del_any A i c 0 l W (LX.out.row.below b) (by omega) (by omega))
          have BXD : Hid (Below wx.heap.size wx wx.drew) := Lib.hid (Below.refl _ _).drew
          have BXA : Hid (Below wx.heap.size wx ((wx.alloc (.cells #[.string x, .slice A' n' c'] 78)).drew)) := Lib.hid (((Below.refl _ _).alloc (Nat.le_refl _) _).drew)
          have bA : Hid (∀ b, b ∈ blk A → b ≠ wx.heap.size ∧ b ≠ bt) := Lib.hid (fun b hb => ⟨by have := (hA0.out b hb).1; have := LX.out.keep.size; omega, by have := (hA0.out b hb).1; have := HG.out; omega⟩)
          have RX : Hid (((wx.alloc (.cells #[.string x, .slice A' n' c'] 78)).drew).heap[wx.heap.size]? = some (.cells #[.string x, .slice A' n' c'] 78 (0, 0))) := Lib.hid (heap_alloc_new wx _)
          have x0 : wx.cell? ⟨bt, 0, none⟩ = some (.string x) := Arr.cell LX.out.box 0; have x1 : wx.cell? ⟨bt, 1, none⟩ = some (.slice A' n' c') := Arr.cell LX.out.box 1
          have FIN : Hid (∀ (W wd W' wf : World) (A2 : Option Addr) (c2 : Nat), Below wx.heap.size wx W → Keep (· ∈ blk A) W wd → Out TX.K W wd A i → Below wd.heap.size wd W' → Vw TX.K wf A2 (0 + 1) c2 (l.take 0 ++ [⟨x, A', n', c'⟩]) → Grew TX.K W' wf A 0 c A2 c2 → Laid TX.K w A i c C F Ct Ft (.returned (.slice A2 (0 + 1) c2)) wf) := Lib.hid (fun W wd W' wf A2 c2 b kd od b' v g => LayS.fin (LX.out.below b) HG.out hlt0.out hA0.out (by omega) HD.out AL.out HV.out kd od b' v g)
          go_region_law (first
            | ((refine step_app TX.ok (by rfl) _ _ (by rfl) A 0 c (l.take 0) (by rfl) (VD.out.below ((Below.refl _ _).alloc (Nat.le_refl _) _)) wd.heap.size 0 1 ⟨x, A', n', c'⟩ (by rfl) (fun j v hv => by rw [Nat.zero_add, cell_of_row _ _ j _ _ _ (heap_alloc_new wd _), ← hv, ← Array.getElem?_toList]; rfl) (by omega) ?_); intro A2 c2 wf vf gf; have RES := Lib.hid (FIN.out _ _ _ wf A2 c2 BXD.out KD.out OD.out ((Below.refl _ _).alloc (Nat.le_refl _) _) vf gf); clear vf gf)
            | ((refine step_app TX.ok (by rfl) _ _ (by rfl) A 0 c (l.take 0) (by rfl) VD.out wx.heap.size 0 1 ⟨x, A', n', c'⟩ (by rfl) (fun j v hv => by rw [Nat.zero_add, cell_of_row wd wx.heap.size j _ _ _ ((KD.out.block _ (by have := BXA.out.size; simp) (fun q => (bA.out _ q).1 rfl)).trans RX.out), ← hv, ← Array.getElem?_toList]; rfl) (by omega) ?_); intro A2 c2 wf vf gf; have RES := Lib.hid (FIN.out _ _ _ wf A2 c2 BXA.out KD.out OD.out (Below.refl _ _) vf gf); clear vf gf)
            | (go_simp; go_at_call 37; ((refine (DL.out _ (by first | exact BXD.out | exact BXA.out)).mono ?_); rintro e9 wd ⟨rfl, vd, kd, od⟩; have VD := Lib.hid vd; have KD := Lib.hid kd; have OD := Lib.hid od; have YY := TB.out wd (by first | exact (Keep.of_below BXD.out).trans (Sub.refl _ _) kd | exact (Keep.of_below BXA.out).trans (Sub.refl _ _) kd); have y20 : wd.cell? ⟨bt, 0, none⟩ = some (.string x) := YY 0 _ rfl; have y21 : wd.cell? ⟨bt, 1, none⟩ = some (.slice A' n' c') := YY 1 _ rfl; clear vd kd od YY)))
          all_goals
            go_wp2
            go_ret
            exact RES.out
          -- B]
        | succ m =>
          have e0 : ((m + 1 : Nat) : Int) - 1 = (m : Int) := by omega
          rw [e0]
          clear e0
          have j1 : decide ((m : Int) ≥ 0) = true := by rw [decide_eq_true_eq]; omega
          have j2 : decide ((0 : Int) ≤ (m : Int)) = true := by rw [decide_eq_true_eq]; omega
          have j3 : (m : Int) < (i : Int) := by omega
          obtain ⟨e, he⟩ : ∃ e, l[m]? = some e := ⟨_, List.getElem?_eq_getElem (by rw [HV.out.len]; omega)⟩
          obtain ⟨g, o, rfl, hgw, hra, hfz⟩ := hrow.at he
          have he' := Lib.hid he; have HFZ := Lib.hid hfz; have HRA := Lib.hid hra
          have f0 : wr.cell? ⟨g, o + m * 2, none⟩ = some (.string e.x) := hra 0 _ rfl
          clear hra hfz he hrow
          have y0 : wr.cell? ⟨bt, 0, none⟩ = some (.string x) := Arr.cell LS.out.box 0
          have LE := Lib.hid (fun w2 (b : Below wr.heap.size wr w2) => TX.less_any x e.x bd w2 (HQr.out.below b))
          have BD : Hid (Below wr.heap.size wr wr.drew) := Lib.hid (Below.refl _ _).drew
          go_upto_region 9 with fail
          go_still_tail 14, (by kernel_rfl)
          change wpList _ _ _ _ _ wr.drew
          by_cases hk : TX.K.key x < TX.K.key e.x
          · have dk : decide (TX.K.key x < TX.K.key e.x) = true := by rw [decide_eq_true_eq]; exact hk
            rw [dk] at LE
            go_wp2_with fail
            refine (LE.out _ BD.out).mono ?_
            rintro e2 w2 ⟨rfl, b2⟩
            have BW2 := Lib.hid (bstep BD.out b2)
            have L2 := Lib.hid (LS.out.below BW2.out)
            have hg2 : g < w2.heap.size := by have := BW2.out.size; omega
            have hbt2 : bt < w2.heap.size := by have := BW2.out.size; omega
            obtain ⟨g2, o2, hA2, _, hra2, _⟩ := L2.out.row.at he'.out
            injection hA2 with hA2
            injection hA2 with hA2 hA3
            subst hA2 hA3
            have u0 : w2.cell? ⟨g, o + m * 2, none⟩ = some (.string e.x) := hra2 0 _ rfl
            have u1 : w2.cell? ⟨g, o + m * 2 + 1, none⟩ = some (.slice e.A e.n e.c) := hra2 1 _ rfl
            clear hra2
            have v1 : w2.cell? ⟨bt, 1, none⟩ = some (.slice A' n' c') := Arr.cell L2.out.box 1
            have W3 : Hid (Below w2.heap.size w2 ((w2.alloc (.cells #[.string e.x, .slice e.A e.n e.c] 78)).drew)) := Lib.hid (((Below.refl _ _).alloc (Nat.le_refl _) _).drew)
            obtain ⟨hnb, hnA, es, hes, hst⟩ := LayS.step TX.ok (L2.out.below W3.out) HG.out hlt0.out hA0.out he'.out hk
            have VE := Lib.hid hes; have ST := Lib.hid hst
            have hn6 : n' ≤ 1000 := by have := HS.out; omega
            have NB : Hid (bt ∉ blk A') := Lib.hid (fun q => (hnA bt q).1 rfl)
            have RE : Hid (((w2.alloc (.cells #[.string e.x, .slice e.A e.n e.c] 78)).drew).rangeAt w2.heap.size 0 (En.v TX.K e)) := Lib.hid (fun j v hv => by
              rw [Nat.zero_add]
              have e1 : ((w2.alloc (.cells #[.string e.x, .slice e.A e.n e.c] 78)).drew).cell? ⟨w2.heap.size, j, none⟩ = _ := cell_of_row _ _ j _ _ _ (heap_alloc_new w2 _)
              rw [e1, ← hv, ← Array.getElem?_toList]
              rfl)
            have K2 : Hid (((w2.alloc (.cells #[.string e.x, .slice e.A e.n e.c] 78)).drew).cell? ⟨bt, 1, none⟩ = some (.slice A' n' c')) := Lib.hid (Arr.cell (L2.out.below W3.out).box 1)
            have K3 : Hid (((w2.alloc (.cells #[.string e.x, .slice e.A e.n e.c] 78)).drew).frozen? ⟨bt, 1, none⟩ = false) := Lib.hid (frozen_of_row _ bt 1 _ _ (L2.out.below W3.out).box)
            have hbt3 : bt < ((w2.alloc (.cells #[.string e.x, .slice e.A e.n e.c] 78)).drew).heap.size := Nat.lt_of_lt_of_le hbt2 W3.out.size
            clear hes hst hnb hnA b2
            go_wp2_with fail
            -- D[
            go_region_law ((refine step_app TX.ok (by rfl) _ _ (by rfl) A' n' c' es (by rfl) VE.out w2.heap.size 0 1 e (by rfl) RE.out (by omega) ?_; intro A2 c2 w3 v3 g3; have q1 : w3.cell? ⟨bt, 1, none⟩ = some (.slice A' n' c') := (World.cell?_of_block (a := ⟨bt, 1, none⟩) (g3.1.block bt hbt3 NB.out)).trans K2.out; have q2 : w3.frozen? ⟨bt, 1, none⟩ = false := (World.frozen?_of_block (a := ⟨bt, 1, none⟩) (g3.1.block bt hbt3 NB.out)).trans K3.out; have RES := Lib.hid (ST.out A2 c2 w3 v3 g3); clear v3 g3))
            all_goals
              go_wp2_with fail
              go_roundw
              case rel => exact ⟨m, A2, n' + 1, c2, by omega, by go_num, RES.out⟩
              case measure => first | (simp [intOf]; done) | (simp [intOf]; omega)
            -- D]
          · have dk : decide (TX.K.key x < TX.K.key e.x) = false := by rw [decide_eq_false_iff_not]; exact hk
            rw [dk] at LE
            go_wp2_with fail
            refine (LE.out _ BD.out).mono ?_
            rintro e2 w2 ⟨rfl, b2⟩
            obtain ⟨wx, hwx⟩ : ∃ wx, wx = w2 := ⟨_, rfl⟩
            rw [← hwx]
            have LX : Hid (LayS TX.K w bt (some ⟨g, o, none⟩) i c l C F Ct Ft x wx (m + 1) A' n' c') := Lib.hid (by rw [hwx]; exact LS.out.below (bstep BD.out b2))
            clear hwx b2 LS
            obtain ⟨A, hAe⟩ : ∃ A : Option Addr, A = some ⟨g, o, none⟩ := ⟨_, rfl⟩
            rw [← hAe] at LX HV ND hA0
            rw [← hAe]
            have HAE := Lib.hid hAe
            clear hAe
            have mw : IntKind.i64.wrap ((m : Int) + 1) = (m : Int) + 1 := IntWalk.i64_in _ (by omega)
            go_wp2_with fail
            -- C[
            have hbx := Arr.lt LX.out.box
            have TB : Hid (∀ W, Keep (· ∈ blk A) wx W → W.rangeAt bt 0 (En.v TX.K ⟨x, A', n', c'⟩)) := Lib.hid (fun W k j v hv => by
              rw [Nat.zero_add, Arr.cell (Arr.keep LX.out.box k (fun q => by have := (hA0.out bt q).1; have := HG.out; omega)) j]
              exact hv)
            have DL : Hid (∀ W, Below wx.heap.size wx W → Calls Try.prog 37 #[.slice A i c, .int .i64 ((m : Int) + 1), .int .i64 i] W fun e w' => e = .returned (.slice A (m + 1) c) ∧ Vw TX.K w' A (m + 1) c (l.take (m + 1)) ∧ Keep (· ∈ blk A) W w' ∧ Out TX.K W w' A i) := Lib.hid (fun W b => by
              have q := TX.del_any A i c (m + 1) l W (LX.out.row.below b) (by omega) (by omega)
              have q2 : ((m + 1 : Nat) : Int) = (m : Int) + 1 := by omega
              rw [q2] at q
              exact q)
            have BXD : Hid (Below wx.heap.size wx wx.drew) := Lib.hid (Below.refl _ _).drew
            have BXA : Hid (Below wx.heap.size wx ((wx.alloc (.cells #[.string x, .slice A' n' c'] 78)).drew)) := Lib.hid (((Below.refl _ _).alloc (Nat.le_refl _) _).drew)
            have bA : Hid (∀ b, b ∈ blk A → b ≠ wx.heap.size ∧ b ≠ bt) := Lib.hid (fun b hb => ⟨by have := (hA0.out b hb).1; have := LX.out.keep.size; omega, by have := (hA0.out b hb).1; have := HG.out; omega⟩)
            have RX : Hid (((wx.alloc (.cells #[.string x, .slice A' n' c'] 78)).drew).heap[wx.heap.size]? = some (.cells #[.string x, .slice A' n' c'] 78 (0, 0))) := Lib.hid (heap_alloc_new wx _)
            have x0 : wx.cell? ⟨bt, 0, none⟩ = some (.string x) := Arr.cell LX.out.box 0; have x1 : wx.cell? ⟨bt, 1, none⟩ = some (.slice A' n' c') := Arr.cell LX.out.box 1
            have FIN : Hid (∀ (W wd W' wf : World) (A2 : Option Addr) (c2 : Nat), Below wx.heap.size wx W → Keep (· ∈ blk A) W wd → Out TX.K W wd A i → Below wd.heap.size wd W' → Vw TX.K wf A2 ((m + 1) + 1) c2 (l.take (m + 1) ++ [⟨x, A', n', c'⟩]) → Grew TX.K W' wf A (m + 1) c A2 c2 → Laid TX.K w A i c C F Ct Ft (.returned (.slice A2 ((m + 1) + 1) c2)) wf) := Lib.hid (fun W wd W' wf A2 c2 b kd od b' v g => LayS.fin (LX.out.below b) HG.out hlt0.out hA0.out (by omega) HD.out AL.out HV.out kd od b' v g)
            go_region_law (first
              | ((refine step_app TX.ok (by rfl) _ _ (by rfl) A (m + 1) c (l.take (m + 1)) (by rfl) (VD.out.below ((Below.refl _ _).alloc (Nat.le_refl _) _)) wd.heap.size 0 1 ⟨x, A', n', c'⟩ (by rfl) (fun j v hv => by rw [Nat.zero_add, cell_of_row _ _ j _ _ _ (heap_alloc_new wd _), ← hv, ← Array.getElem?_toList]; rfl) (by omega) ?_); intro A2 c2 wf vf gf; have RES := Lib.hid (FIN.out _ _ _ wf A2 c2 BXD.out KD.out OD.out ((Below.refl _ _).alloc (Nat.le_refl _) _) vf gf); clear vf gf)
              | ((refine step_app TX.ok (by rfl) _ _ (by rfl) A (m + 1) c (l.take (m + 1)) (by rfl) VD.out wx.heap.size 0 1 ⟨x, A', n', c'⟩ (by rfl) (fun j v hv => by rw [Nat.zero_add, cell_of_row wd wx.heap.size j _ _ _ ((KD.out.block _ (by have := BXA.out.size; simp) (fun q => (bA.out _ q).1 rfl)).trans RX.out), ← hv, ← Array.getElem?_toList]; rfl) (by omega) ?_); intro A2 c2 wf vf gf; have RES := Lib.hid (FIN.out _ _ _ wf A2 c2 BXA.out KD.out OD.out (Below.refl _ _) vf gf); clear vf gf)
              | (go_simp; go_at_call 37; ((refine (DL.out _ (by first | exact BXD.out | exact BXA.out)).mono ?_); rintro e9 wd ⟨rfl, vd, kd, od⟩; have VD := Lib.hid vd; have KD := Lib.hid kd; have OD := Lib.hid od; have YY := TB.out wd (by first | exact (Keep.of_below BXD.out).trans (Sub.refl _ _) kd | exact (Keep.of_below BXA.out).trans (Sub.refl _ _) kd); have y20 : wd.cell? ⟨bt, 0, none⟩ = some (.string x) := YY 0 _ rfl; have y21 : wd.cell? ⟨bt, 1, none⟩ = some (.slice A' n' c') := YY 1 _ rfl; clear vd kd od YY)))
            all_goals
              go_wp2
              go_ret
              have RQ := RES.out
              rw [HAE.out] at RQ
              exact RQ
            -- C]
end Go.Proofs.Ytkgjbmlgbfejlaa
