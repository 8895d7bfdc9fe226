/-
  The contract of package heap's settle, for things of texts.
-/
import Derived.Test.YtkgjbmlgbfejlaaHsL
import Derived.Test.YtkgjbmlgbfejlaaHt
namespace Go.Proofs.Ytkgjbmlgbfejlaa
set_option linter.unusedVariables false
set_option linter.unusedSimpArgs false
set_option maxRecDepth 100000
open Go.RowKit

set_option maxHeartbeats 4000000 in
theorem TX.settle_any (bp bd n0 c0 : Nat) (s : Int) (A0 : Option Addr) : ∀ (N : Nat) (A : Option Addr) (n c : Nat) (l : List (En ByteArray)) (C : List ByteArray) (F : List Nat) (w : World), n ≤ N →
    Arr w bp 75 [TX.fv bd, .int .i64 s, .slice A0 n0 c0] → TX.Less w bd → Vw TX.K w A n c l → Fo TX.K w l C F → (blk A ++ F).Nodup → C.length ≤ 1000 →
    Calls Try.prog 38 #[.pointer (some ⟨bp, 0, none⟩), .slice A n c] w (Settled TX.K w A n c C F) := by
  intro N
  induction N with
  | zero =>
    intro A n c l C F w hN hh hq hv hf nd hsz
    obtain rfl : n = 0 := by omega
    have FI := Lib.hid (Settled.small (K := TX.K) hv hf nd (by omega))
    clear hh hq hv hf nd
    go_enter Try.func38, Try.ntmps38
    go_wp2_with fail
    go_ret
    exact FI.out
  | succ N ih =>
    intro A n c l C F w hN hh hq hv hf nd hsz
    by_cases h2 : n < 2
    · have FI := Lib.hid (Settled.small (K := TX.K) hv hf nd h2)
      clear hh hq hv hf nd
      go_enter Try.func38, Try.ntmps38
      go_wp2_with fail
      go_ret
      exact FI.out
    · obtain ⟨g, o, cur, rfl, hgw, hcs⟩ := hv.some_of (by omega)
      obtain ⟨half, hhalf⟩ : ∃ half, half = n / 2 := ⟨_, rfl⟩
      have hn : n ≤ 1000 := by rw [← hv.len]; have := hf.len; omega
      have hcap := hv.cap
      obtain ⟨hnc, _⟩ := hcap
      have q1 : (n : Int) / 2 = (half : Int) := by omega
      have q2 : (n : Int).tdiv 2 = (half : Int) := by rw [Int.tdiv_eq_ediv_of_nonneg (by omega)]; omega
      have hh1 : 1 ≤ half := by omega
      have hh2 : half < n := by omega
      have hhc : half ≤ c := by omega
      have e1 : (c = half) = False := by simp; omega
      have HH := Lib.hid hh; have HQ := Lib.hid hq; have HV := Lib.hid hv; have HF := Lib.hid hf; have ND := Lib.hid nd; have HS := Lib.hid hsz; have IH := Lib.hid ih; have HN := Lib.hid hN
      clear hh hq hv hf nd hsz ih hN hhalf hcs
      go_enter Try.func38, Try.ntmps38
      go_wp2_with fail
      have ef : l.take half ++ l.drop half = l := List.take_append_drop half l
      obtain ⟨C1, C2, F1, F2, hC, hF, f1, f2⟩ := Fo.split (l.drop half) (l.take half) C F (by rw [ef]; exact HF.out)
      subst hC hF
      have hgF : Hid (∀ b, b ∈ blk (some ⟨g, o, none⟩) ++ (F1 ++ F2) → ∃ cur, w.heap[b]? = some (.cells cur TX.K.T (0, 0))) := Lib.hid (fun b hb => by
        rcases List.mem_append.1 hb with q | q
        · exact HV.out.kind b q
        · exact HF.out.kind b q)
      obtain ⟨m1, m2, m3⟩ := List.nodup_append.1 ND.out
      have D1 : Hid ((blk (some ⟨g, o, none⟩) ++ F1).Nodup) := Lib.hid (List.nodup_append.2 ⟨m1, f1.nodup, fun a ha b hb => m3 a ha b (by simp [hb])⟩)
      have D2 : Hid ((blk (some ⟨g, o + half * (TX.K.z + 1), none⟩) ++ F2).Nodup) := Lib.hid (List.nodup_append.2 ⟨blk_nodup _, f2.nodup, fun a ha b hb => m3 a (by simpa [blk] using ha) b (by simp [hb])⟩)
      have GF : Hid (g ∉ F1 ++ F2) := Lib.hid (fun q => m3 g (by simp [blk]) g q rfl)
      have FF1 := Lib.hid f1; have FF2 := Lib.hid f2
      have hgw2 := heap_lt hgw
      have hlC : Hid (C1.length ≤ 1000 ∧ C2.length ≤ 1000) := Lib.hid (by have := HS.out; simp at this; omega)
      have hHN : Hid (half ≤ N ∧ n - half ≤ N) := Lib.hid (by have := HN.out; omega)
      clear m1 m2 m3 f1 f2 ef hgw
      refine (IH.out (some ⟨g, o, none⟩) half c (l.take half) C1 F1 w hHN.out.1 HH.out HQ.out (HV.out.take half (by omega)) FF1.out D1.out hlC.out.1).mono ?_
      intro e5 w1 st1
      obtain ⟨n1, rfl, le1, v2, fo2, k1, rest⟩ := Settled.second TX.ok HV.out FF2.out ND.out (by omega) st1
      have V2 := Lib.hid v2; have FO2 := Lib.hid fo2; have RS := Lib.hid rest; have LE1 := Lib.hid le1
      have HH1 := Lib.hid (Arr.keep HH.out k1 (fun q => by
        obtain ⟨cu, q2⟩ := hgF.out bp (by rcases List.mem_append.1 q with q | q <;> simp [q])
        exact arr_ne HH.out q2 (by decide)))
      have HQ1 := Lib.hid (HQ.out.keep k1 (fun q hq => hq (hgF.out bd (by rcases List.mem_append.1 q with q | q <;> simp [q]))))
      have hgF1 : Hid (∀ b, b ∈ blk (some ⟨g, o, none⟩) ++ F2 → ∃ cur, w1.heap[b]? = some (.cells cur TX.K.T (0, 0))) := Lib.hid (fun b hb => by
        rcases List.mem_append.1 hb with q | q
        · exact V2.out.kind b (by simpa [blk] using q)
        · exact FO2.out.kind b q)
      clear st1 v2 fo2 k1 rest le1
      go_wp2_with fail
      refine (IH.out (some ⟨g, o + half * 2, none⟩) (n - half) (c - half) (l.drop half) C2 F2 w1 hHN.out.2 HH1.out HQ1.out V2.out FO2.out D2.out hlC.out.2).mono ?_
      intro e6 w2 st2
      obtain ⟨n2, l2, he6, hn2, hl2, k2, si⟩ := RS.out w2 e6 st2
      have he7 : e6 = .returned (.slice (some ⟨g, o + half * 2, none⟩) n2 (c - half)) := he6
      clear he6
      subst he7
      have HH2 := Lib.hid (Arr.keep HH1.out k2 (fun q => by
        obtain ⟨cu, q2⟩ := hgF1.out bp (by rcases List.mem_append.1 q with q | q <;> simp [q])
        exact arr_ne HH1.out q2 (by decide)))
      have HQ2 := Lib.hid (HQ1.out.keep k2 (fun q hq => hq (hgF1.out bd (by rcases List.mem_append.1 q with q | q <;> simp [q]))))
      have SI := Lib.hid si; have HL2 := Lib.hid hl2
      have hFl : Hid (∀ b, b ∈ F1 ++ F2 → b < w.heap.size) := Lib.hid (fun b hb => HF.out.lt b hb)
      have hbp : Hid (bp < w.heap.size ∧ (∀ b, b ∈ blk (some ⟨g, o, none⟩) ++ (F1 ++ F2) → b ≠ bp) ) := Lib.hid ⟨Arr.lt HH.out, fun b hb e1 => by
        obtain ⟨cu, q2⟩ := hgF.out b hb
        rw [e1] at q2
        exact arr_ne HH.out q2 (by decide)⟩
      clear st2 k2 si hl2 RS V2 FO2 HH1 HQ1 hgF1 LE1
      go_wp2_with fail
      go_loopw [6, 8, 27] (fun rv _ jv wr => ∃ (j nr : Nat), j ≤ n2 ∧ jv = .int .i64 j ∧ rv = .slice (some ⟨g, o, none⟩) nr c ∧ SetI TX.K w g o n c half (C1 ++ C2) (F1 ++ F2) l2 n2 wr j nr) (fun _ _ jv _ => n2 - (intOf jv).toNat)
      case atStart => exact ⟨0, n1, Nat.zero_le _, rfl, rfl, SI.out⟩
      case round =>
        obtain ⟨j, nr, hj, rfl, rfl, si⟩ := hrel
        clear SI
        by_cases hlt : j < n2
        · have i1 : decide ((j : Int) < (n2 : Int)) = true := by rw [decide_eq_true_eq]; omega
          obtain ⟨e, he⟩ : ∃ e, l2[j]? = some e := ⟨_, List.getElem?_eq_getElem (by rw [HL2.out]; exact hlt)⟩
          have HHr := Lib.hid (Arr.keep HH.out si.keep (fun q => hbp.out.2 bp q rfl))
          have HQr := Lib.hid (HQ.out.keep si.keep (fun q hq => hq (hgF.out bd q)))
          obtain ⟨_, _, _, _, _, _, _, _, _, _, _, hra, _⟩ := SetI.split TX.ok si he hlt hn2 hnc hgw2 GF.out hFl.out
          have r0 : wr.cell? ⟨g, o + half * 2 + j * 2, none⟩ = some (.string e.x) := hra 0 _ rfl; have r1 : wr.cell? ⟨g, o + half * 2 + j * 2 + 1, none⟩ = some (.slice e.A e.n e.c) := hra 1 _ rfl
          have SI := Lib.hid si; have he' := Lib.hid he
          have bj : (j : Int) < (n2 : Int) := by omega
          clear si he hra
          go_upto_region 8 with fail
          have BA : Hid (Below wr.heap.size wr (wr.alloc (.cells #[.string e.x, .slice e.A e.n e.c] 78))) := Lib.hid ((Below.refl _ _).alloc (Nat.le_refl _) _)
          obtain ⟨lr, Cr, Fr, Ct, Ft, s1, s2, s3, s4, s5, s6, s7, s8⟩ := SetI.split TX.ok (SI.out.below BA.out) he'.out hlt hn2 hnc hgw2 GF.out hFl.out
          have LAY := Lib.hid (TX.lay_any bp bd n0 c0 s A0 (some ⟨g, o, none⟩) nr c lr e.x e.A e.n e.c Cr Fr Ct Ft _ (Arr.below HHr.out BA.out) (HQr.out.below BA.out) s1 s2 s4 s5 s3 (by have := HS.out; omega))
          have NX := Lib.hid s8
          clear s1 s2 s3 s4 s5 s6 s7 s8
          go_wp2_with fail
          refine LAY.out.mono ?_
          intro e8 w8 hl8
          obtain ⟨n8, he8, si8⟩ := NX.out w8 e8 hl8
          subst he8
          have SI8 := Lib.hid si8
          clear si8 hl8 LAY NX
          go_wp2_with fail
          go_roundw
          case rel => exact ⟨j + 1, n8, by omega, by go_num, rfl, SI8.out⟩
          case measure => simp [intOf]; omega
        · obtain rfl : j = n2 := by omega
          have i1 : decide ((j : Int) < (j : Int)) = false := by simp
          have FI := Lib.hid (SetI.fin si HL2.out hn2 hgw2 GF.out)
          clear si
          go_wp2_with fail
          go_ret
          exact FI.out
end Go.Proofs.Ytkgjbmlgbfejlaa
