/-
  The walk of the statement FlowLists: the call returns true; nothing that was in memory turns.
-/
import Derived.Deep.RegionLaw
import Derived.Deep.RegionHeld3
import Derived.Handy
import Derived.Test.YtjjkddahfmkhoaaGu
import Derived.Test.YtjjkddahfmkhoaaGw
namespace Go.Proofs.Ytjjkddahfmkhoaa
set_option linter.unusedVariables false
set_option linter.unusedSimpArgs false
set_option maxRecDepth 100000
open Go.RowKit Go.Shelf
attribute [local go_sem] Oper.semAt_some

def onlyM (P : Act → World → Prop) : Exit → Act → World → Prop
  | .normal, a, w => P a w
  | _, _, _ => False
theorem onlyM_of {P : Act → World → Prop} {e : Exit} {a : Act} {w : World} (h : onlyM P e a w) : e = .normal ∧ P a w := by
  cases e with
  | normal => exact ⟨rfl, h⟩
  | _ => exact h.elim
theorem RowA.capm {w : World} {e : TypeId} {A : Option Addr} {c : Nat} {xs : List Value} (h : RowA w e A c xs) (hA : A = none) : c = 0 := by
  rcases h.parts with ⟨_, q, _⟩ | ⟨_, _, q, _⟩
  · exact q
  · rw [hA] at q; cases q
theorem name_l {P : Program} {c : Code} {Q : Exit → Act → World → Prop} {T : Array Value} {ds : List Deferred} {w : World} (h : ∀ Q', Q' = Q → c.wp P Q' { tmps := T, defers := ds } w) : c.wp P Q { tmps := T, defers := ds } w := h Q rfl
set_option maxHeartbeats 16000000 in
theorem flists_any (A : Option Addr) (len cap : Nat) (zs : List Int) (m dd : Int) (w : World) (hr : RF w A len cap zs) (hdd : Ifit dd) :
    Calls Try.prog 4 #[.slice A len cap, .int .i64 m, .int .i64 dd] w fun e w' => e = .returned (.bool true) ∧ Below w.heap.size w w' := by
  obtain ⟨k, hk⟩ : ∃ k, min len 40 = k := ⟨_, rfl⟩
  have hk1 : k ≤ len := by omega
  have hk2 : k ≤ 40 := by omega
  obtain ⟨o1, o2, -⟩ := hr.own hk1
  obtain ⟨own, how⟩ : ∃ own, own = (List.range k).map (fun j => zs.getD j 0) := ⟨_, rfl⟩
  rw [← how] at o1 o2
  have hA0 := hr.1.2.2
  have hlc : len ≤ cap := hr.1.1
  have hcm := hr.1.2.1
  unfold maxLen at hcm
  have O1 := Lib.hid o1; have O2 := Lib.hid o2; have HA0 := Lib.hid hA0; have HDD := Lib.hid hdd
  clear hr how o1 o2 hA0 hdd
  have hmf := mk_fn
  obtain ⟨mb, hmb⟩ : ∃ z, z = w.heap.size := ⟨_, rfl⟩
  obtain ⟨w1, hw1⟩ : ∃ v, v = w.alloc (.cells #[.int .i64 m] 3) := ⟨_, rfl⟩
  have s1 : w1.heap.size = mb + 1 := by rw [hw1, hmb]; simp
  have B1 : Hid (Below w.heap.size w w1) := Lib.hid (by rw [hw1]; exact balloc _ _)
  have CM : Hid (Arr w1 mb 3 [.int .i64 m]) := Lib.hid (by rw [hw1, hmb]; exact Arr.new w _ [_])
  have FR := Lib.hid (from_any A k cap own w1 (O1.out.below B1.out) O2.out (by omega) HA0.out)
  have HW1 := Lib.hid hw1; have HMB := Lib.hid hmb; have S1 := Lib.hid s1
  clear hw1 hmb s1
  go_enter Try.func4, Try.ntmps4
  go_upto_region 1 with fail
  obtain ⟨Q1, hQ1⟩ : ∃ Q1 : Act → World → Prop, Q1 = (fun a9 V1 => V1 = w1 ∧ ∃ u19 u20 u21 u22 : Value, a9 = { tmps := #[.slice A len cap, .int .i64 m, .int .i64 dd, undef, .pointer (some ⟨mb, 0, none⟩), undef, .bool false, .slice A k cap, undef, undef, undef, undef, undef, undef, undef, undef, undef, undef, .slice A len cap, u19, u20, u21, u22, undef, undef, undef, undef, undef, undef, undef, undef, undef, undef, undef, undef, undef, undef, undef, undef, undef, undef, undef, undef, undef, undef, undef, undef, undef, undef, undef, undef, undef, undef, undef, undef, undef, undef, undef, undef, undef, undef, undef, undef, undef, undef, undef, undef, undef, undef, undef, undef, undef, undef, undef, undef, undef, undef, undef, undef, undef, undef, undef, undef, undef, undef, undef, undef, undef, undef, undef, undef, undef, undef, undef, undef, undef, undef, undef, undef, undef, undef, undef, undef, undef, undef, undef, undef], defers := [] }) := ⟨_, rfl⟩
  have HQ1 := Lib.hid hQ1
  clear hQ1
  refine wp_mono (Q := onlyM Q1) ?_ ?_
  · by_cases hle : len ≤ 40
    · have hkl : k = len := by omega
      have n3 : min (len : Int) 40 = (len : Int) := by omega
      rw [← HW1.out]
      go_wp2_with fail
      show Q1 _ _
      rw [HQ1.out]
      rw [hkl, HMB.out]
      exact ⟨rfl, _, _, _, _, rfl⟩
    · have hkl : k = 40 := by omega
      have n3 : min (len : Int) 40 = 40 := by omega
      rw [← HW1.out]
      go_wp2_with fail
      show Q1 _ _
      rw [HQ1.out]
      rw [hkl, HMB.out]
      exact ⟨rfl, _, _, _, _, rfl⟩
  intro e a9 V1 hq0
  obtain ⟨rfl, hq⟩ := onlyM_of hq0
  clear hq0
  rw [HQ1.out] at hq
  obtain ⟨rfl, u19, u20, u21, u22, rfl⟩ := hq
  clear HQ1 Q1 hk
  have WI := Lib.hid (fun v => fwithin_in dd 1 5 HDD.out (by decide) (by decide) (by decide) (by decide) v)
  go_wp2_with fail
  refine FR.out.mono ?_
  rintro e w2 ⟨fb, Af, cf, rfl, ⟨a2, r2⟩, ⟨f1, f2⟩, b2⟩
  have L0 := Lib.hid (ls_from fb Af k cf own w2 a2 r2 O2.out (by omega))
  have low0 : Hid (∀ q, FromB fb Af q → V1.heap.size ≤ q ∧ q < w2.heap.size) := Lib.hid (fun q h => by
    rcases h with rfl | ⟨a, ha, rfl⟩
    · exact ⟨f1, Arr.lt a2⟩
    · exact ⟨f2 a ha, r2.lt a ha⟩)
  have enF : EN 46 := enters_of Try.func46 (by kernel_rfl) rfl
  have enM : EN 49 := enters_of Try.func49 (by kernel_rfl) rfl
  have enK : EN 51 := enters_of Try.func51 (by kernel_rfl) rfl
  have en1 : EN 20 := enters_of Try.func20 (by kernel_rfl) rfl
  have en2 : EN 22 := enters_of Try.func22 (by kernel_rfl) rfl
  have en3 : EN 24 := enters_of Try.func24 (by kernel_rfl) rfl
  have ENS := Lib.hid (And.intro enF (And.intro enM (And.intro enK (And.intro en1 (And.intro en2 en3)))))
  clear enF enM enK en1 en2 en3
  have CM2 := Lib.hid (CM.out.below b2); have B2 := Lib.hid (B1.out.trans (b2.mono B1.out.size))
  have hV1 := B1.out.size; have hw2 := b2.size
  clear FR a2 r2 f1 f2 b2
  go_wp2_with fail
  refine (WI.out _).mono ?_
  rintro e w2' ⟨d, rfl, d0, d1, rfl⟩
  go_upto_region 4 with fail
  obtain ⟨w3, hw3⟩ : ∃ v, v = w2.alloc (.cells #[.int .i64 d] 3) := ⟨_, rfl⟩
  obtain ⟨db, hdb⟩ : ∃ z, z = w2.heap.size := ⟨_, rfl⟩
  have CD : Hid (Arr w3 db 3 [.int .i64 d]) := Lib.hid (by rw [hw3, hdb]; exact Arr.new w2 _ [_])
  have B3 : Hid (Below w2.heap.size w2 w3) := Lib.hid (by rw [hw3]; exact balloc _ _)
  have L3 := Lib.hid (L0.out.later B3.out)
  have CM3 := Lib.hid (CM2.out.below B3.out)
  rw [← hw3, ← hdb]
  have HDB := Lib.hid hdb
  have hs3 := B3.out.size
  have hdl := Arr.lt CD.out
  have mlt : mb < V1.heap.size := Arr.lt CM.out
  clear hw3 hdb
  have LA := Lib.hid (L3.out.list ENS.out.1)
  rw [O2.out] at LA
  go_wp2_with fail
  refine LA.out.mono ?_
  rintro e w4 ⟨Aa, ca, rfl, ra, b4⟩
  have F1 : Hid (∀ v, Below w3.heap.size w3 v → ∀ x W, Keep (fun q => ¬ q = mb) v W → Calls Try.prog 20 (#[.int .i64 x] ++ #[.pointer (some ⟨mb, 0, none⟩)]) W fun e w' => e = .returned (.string (oneB (wrap64 (x + m)))) ∧ Below W.heap.size W w') := Lib.hid (fun v bv x W kW => by
    rw [args_one]
    exact fl1_any x m mb W (((CM3.out.below bv).keepF kW (fun h => h rfl)).cell 0))
  have MP := Lib.hid ((L3.out.later b4).mapsc ENS.out.1 (fun x => oneB (wrap64 (x + m))) ENS.out.2.2.2.1 (fun q => q = mb) (fun q e => by subst e; have := b4.size; omega) (F1.out _ b4) (fun q hq e => by have := low0.out q hq; omega))
  have RA := Lib.hid ra; have B4 := Lib.hid b4
  clear LA ra b4 F1
  go_wp2_with fail
  refine MP.out.mono ?_
  rintro e w5 ⟨sb1, fb1, It1, rfl, l1, b5⟩
  have LB := Lib.hid (l1.list ENS.out.2.1)
  have B5 := Lib.hid (B4.out.trans (b5.mono B4.out.size)); have RA5 := Lib.hid (RA.out.below b5)
  clear MP l1 b5 RA
  go_wp2_with fail
  refine LB.out.mono ?_
  rintro e w6 ⟨Ab, cb, rfl, rb, b6⟩
  obtain ⟨ss, hss⟩ : ∃ ss, own.map (fun x => oneB (wrap64 (x + m))) = ss := ⟨_, rfl⟩
  have SL : ss.length = k := by rw [← hss, List.length_map]; exact O2.out
  have HSS := Lib.hid hss
  rw [hss] at rb ⊢
  rw [SL]
  have B6 := Lib.hid (B5.out.trans (b6.mono B5.out.size)); have RA6 := Lib.hid (RA5.out.below b6); have RB6 := Lib.hid rb; have HSL := Lib.hid SL
  have F2 : Hid (∀ v, Below w3.heap.size w3 v → ∀ x W, Keep (fun q => ¬ q = db) v W → Calls Try.prog 22 (#[.int .i64 x] ++ #[.pointer (some ⟨db, 0, none⟩)]) W fun e w' => e = .returned (.bool (lowD d x)) ∧ Below W.heap.size W w') := Lib.hid (fun v bv x W kW => by
    rw [args_one]
    exact (fl2_any x d db W (((CD.out.below bv).keepF kW (fun h => h rfl)).cell 0)).mono (fun e w' h => ⟨h.1, by rw [h.2]; exact Below.refl _ _⟩))
  have KP := Lib.hid ((L3.out.later B6.out).keepc ENS.out.1 (lowD d) ENS.out.2.2.2.2.1 (fun q => q = db) (fun q e => by subst e; have := B6.out.size; omega) (F2.out _ B6.out) (fun q hq e => by have := low0.out q hq; have := HDB.out; omega))
  clear LB rb b6 hss SL RA5 F2
  go_wp2_with fail
  refine KP.out.mono ?_
  rintro e w7 ⟨sb2, fb2, It2, rfl, l2, -, b7⟩
  have LC := Lib.hid (l2.list ENS.out.2.2.1)
  have B7 := Lib.hid (B6.out.trans (b7.mono B6.out.size)); have RA7 := Lib.hid (RA6.out.below b7); have RB7 := Lib.hid (RB6.out.below b7)
  clear KP l2 b7 RA6 RB6
  go_wp2_with fail
  refine LC.out.mono ?_
  rintro e w8 ⟨Ac, cc, rfl, rc, b8⟩
  obtain ⟨ks, hks⟩ : ∃ ks, own.filter (lowD d) = ks := ⟨_, rfl⟩
  have hkl : ks.length ≤ 40 := by rw [← hks]; have h2 := List.length_filter_le (lowD d) own; have h3 := O2.out; omega
  have HKS := Lib.hid hks
  rw [hks] at rc ⊢
  obtain ⟨nk, hnk⟩ : ∃ nk, ks.length = nk := ⟨_, rfl⟩
  rw [hnk] at hkl ⊢
  have HNK := Lib.hid hnk
  have B8 := Lib.hid (B7.out.trans (b8.mono B7.out.size)); have RA8 := Lib.hid (RA7.out.below b8); have RB8 := Lib.hid (RB7.out.below b8); have RC8 := Lib.hid rc
  have cm8 := (CM3.out.below B8.out).cell 0
  have FD := Lib.hid ((L3.out.later B8.out).fold ENS.out.1 f3F m ENS.out.2.2.2.2.2 (fun b x W => by rw [args_nil2]; exact (fl3_any x b W).mono (fun e w' h => ⟨h.1, by rw [h.2]; exact Below.refl _ _⟩)))
  clear LC rc b8 RA7 RB7 hks hnk
  go_wp2_with fail
  refine FD.out.mono ?_
  rintro e w9 ⟨rfl, b9⟩
  obtain ⟨tot, htot⟩ : ∃ tot, own.foldl f3F m = tot := ⟨_, rfl⟩
  have HTOT := Lib.hid htot
  rw [htot]
  have B9 := Lib.hid (B8.out.trans (b9.mono B8.out.size)); have RA9 := Lib.hid (RA8.out.below b9); have RB9 := Lib.hid (RB8.out.below b9); have RC9 := Lib.hid (RC8.out.below b9)
  have CM9 := Lib.hid (CM3.out.below B9.out); have CD9 := Lib.hid (CD.out.below B9.out)
  have cm9 := CM9.out.cell 0
  have BW9 : Hid (Below w.heap.size w w9) := Lib.hid ((B2.out.trans (B3.out.mono B2.out.size)).trans (B9.out.mono (by have := B2.out.size; omega)))
  have hs9 := B9.out.size
  clear FD b9 RA8 RB8 RC8 htot cm8
  go_wp2_with fail
  refine name_l ?_
  intro QM hQM
  have HQM := Lib.hid hQM
  clear hQM
  go_loopw [14, 15, 43] (fun av sv iv wr => ∃ (j : Nat) (Aw : Option Addr) (cw nw : Nat) (sm : Int), iv = .int .i64 j ∧ j ≤ k ∧ av = .slice Aw nw cw ∧ sv = .int .i64 sm ∧ (RowA wr 3 Aw cw (fv ((own.take j).filter (lowD d))) ∧ ((own.take j).filter (lowD d)).length = nw) ∧ (own.take j).foldl f3F m = sm ∧ Below w9.heap.size w9 wr ∧ (∀ a, Aw = some a → w9.heap.size ≤ a.block)) (fun _ _ iv _ => k - (intOf iv).toNat)
  case atStart => exact ⟨0, none, 0, 0, m, rfl, Nat.zero_le _, rfl, rfl, ⟨RowA.nil _ _, rfl⟩, rfl, Below.refl _ _, fun a ha => by cases ha⟩
  case round =>
    obtain ⟨j, Aw, cw, nw, sm, rfl, hj, rfl, rfl, ⟨hrow, hlen⟩, hsum, hbel, hnew⟩ := hrel
    have HROW := Lib.hid hrow; have HLEN := Lib.hid hlen; have HSUM := Lib.hid hsum; have HBEL := Lib.hid hbel; have HNEW := Lib.hid hnew
    have hnw : nw ≤ 40 := by rw [← hlen]; have h1 := List.length_filter_le (lowD d) (own.take j); rw [List.length_take] at h1; omega
    clear hrow hlen hsum hbel hnew
    by_cases hlt : j < k
    · obtain ⟨x, hx⟩ : ∃ x, own[j]? = some x := ⟨_, List.getElem?_eq_getElem (by rw [O2.out]; exact hlt)⟩
      obtain ⟨b, o, rfl, hb0, hcz⟩ := (O1.out.below (BW9.out.trans (HBEL.out.mono BW9.out.size))) j x hx
      have RBr := RB9.out.below HBEL.out
      obtain ⟨g, rfl, hg⟩ := RBr.at (by rw [List.length_map, HSL.out]; omega)
      have hsx : ss[j]? = some (oneB (wrap64 (x + m))) := by rw [← HSS.out, List.getElem?_map, hx]; rfl
      have cs : wr.cell? ⟨g, j, none⟩ = some (.string (oneB (wrap64 (x + m)))) := by rw [(hg j).2 (by rw [List.length_map, HSL.out]; exact hlt), List.getElem?_map, hsx]; rfl
      have cmr := (CM9.out.below HBEL.out).cell 0
      have cdr := (CD9.out.below HBEL.out).cell 0
      have TS : Hid (own.take (j + 1) = own.take j ++ [x]) := Lib.hid (by rw [List.take_add_one, hx]; rfl)
      clear hx RBr hg hsx
      go_upto_region 12 with fail
      obtain ⟨Q2, hQ2⟩ : ∃ Q2 : Act → World → Prop, Q2 = (fun a9 V9 => Below wr.heap.size wr V9 ∧ ∃ u48 u49 u50 u51 u52 u53 u54 u55 u56 u57 u58 u59 u60 u61 u62 u63 : Value, a9 = { tmps := #[.slice (some ⟨b, o, none⟩) len cap, .int .i64 m, .int .i64 dd, undef, .pointer (some ⟨mb, 0, none⟩), undef, u6, .slice (some ⟨b, o, none⟩) k cap, .func (.func 46) #[] #[.pointer (some ⟨fb, 0, none⟩)], .pointer (some ⟨db, 0, none⟩), .slice Aa k ca, .slice (some ⟨g, 0, none⟩) k cb, .slice Ac nk cc, .int .i64 tot, .slice Aw nw cw, .int .i64 sm, .int .i64 j, .int .i64 x, .slice (some ⟨b, o, none⟩) len cap, u19, u20, u21, u22, .slice (some ⟨b, o, none⟩) k cap, .func (.func 46) #[] #[.pointer (some ⟨fb, 0, none⟩)], .int .i64 dd, .int .i64 d, .func (.func 46) #[] #[.pointer (some ⟨fb, 0, none⟩)], .slice Aa k ca, .func (.func 46) #[] #[.pointer (some ⟨fb, 0, none⟩)], .func (.func 20) #[] #[.pointer (some ⟨mb, 0, none⟩)], .func (.func 49) #[] #[.pointer (some ⟨sb1, 0, none⟩), .pointer (some ⟨fb1, 0, none⟩)], .slice (some ⟨g, 0, none⟩) k cb, .func (.func 46) #[] #[.pointer (some ⟨fb, 0, none⟩)], .func (.func 22) #[] #[.pointer (some ⟨db, 0, none⟩)], .func (.func 51) #[] #[.pointer (some ⟨sb2, 0, none⟩), .pointer (some ⟨fb2, 0, none⟩)], .slice Ac nk cc, .func (.func 46) #[] #[.pointer (some ⟨fb, 0, none⟩)], .int .i64 m, .int .i64 tot, .int .i64 m, .slice (some ⟨b, o, none⟩) k cap, .int .i64 k, .int .i64 j, .bool true, .int .i64 j, .pointer (some ⟨b, o + j, none⟩), .int .i64 x, u48, u49, u50, u51, u52, u53, u54, u55, u56, u57, u58, u59, u60, u61, u62, u63, .bool false, u65, u66, u67, u68, u69, u70, u71, u72, u73, u74, u75, u76, u77, undef, undef, undef, undef, undef, undef, undef, undef, undef, undef, undef, undef, undef, undef, undef, undef, undef, undef, undef, undef, undef, undef, undef, undef, undef, undef, undef, undef, undef], defers := [] }) := ⟨_, rfl⟩
      have HQ2 := Lib.hid hQ2
      clear hQ2
      refine wp_mono (Q := onlyM Q2) ?_ ?_
      · have we : IntKind.u8.wrap (IntKind.i64.wrap (x + m)) = wrap64 (x + m) % 256 := by first | (simp only [IntKind.wrap_u8, IntKind.wrap_i64, wrap64]; done) | go_arith
        have hc2 : (convert 42 9 (.slice (some ⟨wr.heap.size, 0, none⟩) 1 1)).run Try.prog (wr.alloc (.cells #[.int .u8 (wrap64 (x + m) % 256)] 5)).drew = .ok (.string (oneB (wrap64 (x + m)))) (wr.alloc (.cells #[.int .u8 (wrap64 (x + m) % 256)] 5)).drew := conv_one wr.drew (wrap64 (x + m))
        have i1 : decide ((k : Int) ≤ (j : Int)) = false := by rw [decide_eq_false_iff_not]; omega
        have i0 : decide (k ≤ j) = false := by rw [decide_eq_false_iff_not]; omega
        have BD : Hid (∀ ob, Below wr.heap.size wr (wr.alloc ob).drew) := Lib.hid (fun ob => ((Below.refl wr.heap.size wr).alloc (Nat.le_refl _) ob).drew)
        clear O1 O2 HA0 HDD B1 CM S1 HMB HW1 WI L0 low0 ENS CM2 B2 CD B3 L3 CM3 HDB RA9 RC9 RB9 CM9 CD9 BW9 B4 B5 B6 B7 B8 B9 HSS HSL HKS HNK HTOT HROW HLEN HSUM HBEL HNEW TS cm9 hmf HQM
        have n1 := World.new_ne wr _ cs
        have n2 := World.new_ne wr _ cmr
        refine wp_region_held_drew (S := fun w' => w'.cell? ⟨g, j, none⟩ = some (.string (oneB (wrap64 (x + m)))) ∧ w'.cell? ⟨mb, 0, none⟩ = some (.int .i64 m)) (by kernel_rfl) ?_ (fun hHeld => ?_)
        · exact ⟨cs, cmr⟩
        refine wpAnyH_take (i := 0) (oi := { dst := some 48, op := Op.move (Operand.tmp 16), type := 3, pos := "law.go:61", after := #[], guard := none }) (v := ?_) rfl (by kernel_rfl) (by kernel_rfl) (by kernel_rfl) (fun _ _ _ h => h) (Or.inl ⟨by rfl, ?_⟩) (by assumption) ?_
        rotate_left
        · intro w hSw
          (try dsimp only at hSw)
          first | (go_simp; done) | (go_simp; with_reducible rfl)
        try simp only [Act.put, List.setIfInBounds_toArray, List.set_cons_zero, List.set_cons_succ]
        refine wpAnyH_take (i := 1) (oi := { dst := some 49, op := Op.move (Operand.tmp 11), type := 37, pos := "law.go:61", after := #[], guard := none }) (v := ?_) rfl (by kernel_rfl) (by kernel_rfl) (by kernel_rfl) (fun _ _ _ h => h) (Or.inl ⟨by rfl, ?_⟩) (by assumption) ?_
        rotate_left
        · intro w hSw
          (try dsimp only at hSw)
          first | (go_simp; done) | (go_simp; with_reducible rfl)
        try simp only [Act.put, List.setIfInBounds_toArray, List.set_cons_zero, List.set_cons_succ]
        refine wpAnyH_take (i := 2) (oi := { dst := some 50, op := Op.call { callee := Callee.builtin Builtin.len, args := #[Operand.tmp 49], argTypes := #[37] }, type := 3, pos := "law.go:61", after := #[{ on := 1, ground := Ground.data }], guard := none }) (v := ?_) rfl (by kernel_rfl) (by kernel_rfl) (by kernel_rfl) (fun _ _ _ h => h) (Or.inl ⟨by rfl, ?_⟩) (by assumption) ?_
        rotate_left
        · intro w hSw
          (try dsimp only at hSw)
          first | (go_simp; done) | (go_simp; with_reducible rfl)
        try simp only [Act.put, List.setIfInBounds_toArray, List.set_cons_zero, List.set_cons_succ]
        refine wpAnyH_take (i := 3) (oi := { dst := some 51, op := Op.binOp BinOp.geq 3 (Operand.tmp 48) (Operand.tmp 50) 3, type := 4, pos := "law.go:61", after := #[{ on := 0, ground := Ground.data }, { on := 2, ground := Ground.data }], guard := none }) (v := ?_) rfl (by kernel_rfl) (by kernel_rfl) (by kernel_rfl) (fun _ _ _ h => h) (Or.inl ⟨by rfl, ?_⟩) (by assumption) ?_
        rotate_left
        · intro w hSw
          (try dsimp only at hSw)
          first | (go_simp; done) | (go_simp; with_reducible rfl)
        try simp only [Act.put, List.setIfInBounds_toArray, List.set_cons_zero, List.set_cons_succ]
        refine wpAnyH_take (i := 4) (oi := { dst := some 52, op := Op.move (Operand.tmp 51), type := 4, pos := "law.go:61", after := #[{ on := 3, ground := Ground.data }], guard := none }) (v := ?_) rfl (by kernel_rfl) (by kernel_rfl) (by kernel_rfl) (fun _ _ _ h => h) (Or.inl ⟨by rfl, ?_⟩) (by assumption) ?_
        rotate_left
        · intro w hSw
          (try dsimp only at hSw)
          first | (go_simp; done) | (go_simp; with_reducible rfl)
        try simp only [Act.put, List.setIfInBounds_toArray, List.set_cons_zero, List.set_cons_succ]
        refine wpAnyH_take (i := 5) (oi := { dst := some 53, op := Op.move (Operand.tmp 11), type := 37, pos := "law.go:61", after := #[{ on := 4, ground := Ground.guard }], guard := some (4, false) }) (v := ?_) rfl (by kernel_rfl) (by kernel_rfl) (by kernel_rfl) (fun _ _ _ h => h) (Or.inl ⟨by rfl, ?_⟩) (by assumption) ?_
        rotate_left
        · intro w hSw
          (try dsimp only at hSw)
          first | (go_simp; done) | (go_simp; with_reducible rfl)
        try simp only [Act.put, List.setIfInBounds_toArray, List.set_cons_zero, List.set_cons_succ]
        refine wpAnyH_take (i := 6) (oi := { dst := some 54, op := Op.move (Operand.tmp 16), type := 3, pos := "law.go:61", after := #[{ on := 4, ground := Ground.guard }], guard := some (4, false) }) (v := ?_) rfl (by kernel_rfl) (by kernel_rfl) (by kernel_rfl) (fun _ _ _ h => h) (Or.inl ⟨by rfl, ?_⟩) (by assumption) ?_
        rotate_left
        · intro w hSw
          (try dsimp only at hSw)
          first | (go_simp; done) | (go_simp; with_reducible rfl)
        try simp only [Act.put, List.setIfInBounds_toArray, List.set_cons_zero, List.set_cons_succ]
        refine wpAnyH_take (i := 7) (oi := { dst := some 55, op := Op.indexAddr 37 (Operand.tmp 53) (Operand.tmp 54), type := 0, pos := "law.go:61", after := #[{ on := 5, ground := Ground.data }, { on := 6, ground := Ground.data }, { on := 4, ground := Ground.guard }], guard := some (4, false) }) (v := ?_) rfl (by kernel_rfl) (by kernel_rfl) (by kernel_rfl) (fun _ _ _ h => h) (Or.inl ⟨by rfl, ?_⟩) (by assumption) ?_
        rotate_left
        · intro w hSw
          (try dsimp only at hSw)
          first | (go_simp; done) | (go_simp; with_reducible rfl)
        try simp only [Act.put, List.setIfInBounds_toArray, List.set_cons_zero, List.set_cons_succ]
        refine wpAnyH_take (i := 8) (oi := { dst := some 56, op := Op.load 9 (Operand.tmp 55), type := 9, pos := "law.go:61", after := #[{ on := 7, ground := Ground.data }, { on := 4, ground := Ground.guard }], guard := some (4, false) }) (v := ?_) rfl (by kernel_rfl) (by kernel_rfl) (by kernel_rfl) (fun _ _ _ h => h) (Or.inl ⟨by rfl, ?_⟩) (by assumption) ?_
        rotate_left
        · intro w hSw
          (try dsimp only at hSw)
          first | (go_simp; done) | (go_simp; with_reducible rfl)
        try simp only [Act.put, List.setIfInBounds_toArray, List.set_cons_zero, List.set_cons_succ]
        refine wpAnyH_take (i := 9) (oi := { dst := some 57, op := Op.move (Operand.tmp 17), type := 3, pos := "law.go:61", after := #[{ on := 4, ground := Ground.guard }], guard := some (4, false) }) (v := ?_) rfl (by kernel_rfl) (by kernel_rfl) (by kernel_rfl) (fun _ _ _ h => h) (Or.inl ⟨by rfl, ?_⟩) (by assumption) ?_
        rotate_left
        · intro w hSw
          (try dsimp only at hSw)
          first | (go_simp; done) | (go_simp; with_reducible rfl)
        try simp only [Act.put, List.setIfInBounds_toArray, List.set_cons_zero, List.set_cons_succ]
        refine wpAnyH_take (i := 10) (oi := { dst := some 58, op := Op.load 3 (Operand.tmp 4), type := 3, pos := "law.go:61", after := #[{ on := 4, ground := Ground.guard }], guard := some (4, false) }) (v := ?_) rfl (by kernel_rfl) (by kernel_rfl) (by kernel_rfl) (fun _ _ _ h => h) (Or.inl ⟨by rfl, ?_⟩) (by assumption) ?_
        rotate_left
        · intro w hSw
          (try dsimp only at hSw)
          first | (go_simp; done) | (go_simp; with_reducible rfl)
        try simp only [Act.put, List.setIfInBounds_toArray, List.set_cons_zero, List.set_cons_succ]
        refine wpAnyH_take (i := 11) (oi := { dst := some 59, op := Op.binOp BinOp.add 3 (Operand.tmp 57) (Operand.tmp 58) 3, type := 3, pos := "law.go:61", after := #[{ on := 9, ground := Ground.data }, { on := 10, ground := Ground.data }, { on := 4, ground := Ground.guard }], guard := some (4, false) }) (v := ?_) rfl (by kernel_rfl) (by kernel_rfl) (by kernel_rfl) (fun _ _ _ h => h) (Or.inl ⟨by rfl, ?_⟩) (by assumption) ?_
        rotate_left
        · intro w hSw
          (try dsimp only at hSw)
          first | (go_simp; done) | (go_simp; with_reducible rfl)
        try simp only [Act.put, List.setIfInBounds_toArray, List.set_cons_zero, List.set_cons_succ]
        refine wpAnyH_take (i := 12) (oi := { dst := some 60, op := Op.convert 3 5 (Operand.tmp 59), type := 5, pos := "law.go:61", after := #[{ on := 11, ground := Ground.data }, { on := 4, ground := Ground.guard }], guard := some (4, false) }) (v := ?_) rfl (by kernel_rfl) (by kernel_rfl) (by kernel_rfl) (fun _ _ _ h => h) (Or.inl ⟨by rfl, ?_⟩) (by assumption) ?_
        rotate_left
        · intro w hSw
          (try dsimp only at hSw)
          first | (go_simp; done) | (go_simp; with_reducible rfl)
        try simp only [Act.put, List.setIfInBounds_toArray, List.set_cons_zero, List.set_cons_succ]
        refine wpAnyH_ready (rs := [13]) (by kernel_rfl) (by simp) ?_
        refine AllReadyH.cons (o := { dst := some 61, op := Op.buildSlice 42 1 #[(0, Operand.tmp 60)], type := 42, pos := "law.go:61", after := #[{ on := 12, ground := Ground.data }, { on := 4, ground := Ground.guard }], guard := some (4, false) }) rfl (fun K hK => ?_) ?_
        rotate_left
        · exact AllReadyH.nil
        go_simp
        refine hK.out _ _ ?_ (fun hHeld13 => ?_)
        · (try dsimp only)
          first | exact ⟨cs, cmr⟩ | go_keep
        clear hK K
        try simp only [Act.put, List.setIfInBounds_toArray, List.set_cons_zero, List.set_cons_succ]
        refine wpAnyH_ready (rs := [14]) (by kernel_rfl) (by simp) ?_
        refine AllReadyH.cons (o := { dst := some 62, op := Op.convert 42 9 (Operand.tmp 61), type := 9, pos := "law.go:61", after := #[{ on := 13, ground := Ground.data }, { on := 4, ground := Ground.guard }], guard := some (4, false) }) rfl (fun K hK => ?_) ?_
        rotate_left
        · exact AllReadyH.nil
        go_simp
        refine hK.out _ _ ?_ (fun hHeld14 => ?_)
        · (try dsimp only)
          first | exact ⟨cs, cmr⟩ | go_keep
        clear hK K
        try simp only [Act.put, List.setIfInBounds_toArray, List.set_cons_zero, List.set_cons_succ]
        refine wpAnyH_take (i := 15) (oi := { dst := some 63, op := Op.binOp BinOp.neq 9 (Operand.tmp 56) (Operand.tmp 62) 9, type := 4, pos := "law.go:61", after := #[{ on := 8, ground := Ground.data }, { on := 14, ground := Ground.data }, { on := 4, ground := Ground.guard }], guard := some (4, false) }) (v := ?_) rfl (by kernel_rfl) (by kernel_rfl) (by kernel_rfl) (fun _ _ _ h => h) (Or.inl ⟨by rfl, ?_⟩) (by assumption) ?_
        rotate_left
        · intro w hSw
          (try dsimp only at hSw)
          first | (go_simp; done) | (go_simp; with_reducible rfl)
        try simp only [Act.put, List.setIfInBounds_toArray, List.set_cons_zero, List.set_cons_succ]
        refine wpAnyH_take (i := 16) (oi := { dst := some 64, op := Op.pick (Operand.tmp 52) (Operand.const (Value.bool true)) (Operand.tmp 63), type := 4, pos := "law.go:61", after := #[{ on := 4, ground := Ground.data }, { on := 15, ground := Ground.data }], guard := none }) (v := ?_) rfl (by kernel_rfl) (by kernel_rfl) (by kernel_rfl) (fun _ _ _ h => h) (Or.inl ⟨by rfl, ?_⟩) (by assumption) ?_
        rotate_left
        · intro w hSw
          (try dsimp only at hSw)
          first | (go_simp; done) | (go_simp; with_reducible rfl)
        try simp only [Act.put, List.setIfInBounds_toArray, List.set_cons_zero, List.set_cons_succ]
        refine wpAnyH_done (by kernel_rfl) ?_ _
        all_goals (show Q2 _ _; rw [HQ2.out]; exact ⟨BD.out _, _, _, _, _, _, _, _, _, _, _, _, _, _, _, _, _, rfl⟩)
      intro e a9 V9 hq0
      obtain ⟨rfl, hq⟩ := onlyM_of hq0
      clear hq0
      rw [HQ2.out] at hq
      obtain ⟨bv, u48, u49, u50, u51, u52, u53, u54, u55, u56, u57, u58, u59, u60, u61, u62, u63, rfl⟩ := hq
      dsimp only
      have BV := Lib.hid bv
      have HB9 := Lib.hid (HBEL.out.trans (bv.mono HBEL.out.size))
      have ROW9 := Lib.hid (HROW.out.below bv)
      have cd9 := (CD9.out.below HB9.out).cell 0
      clear HQ2 Q2 bv cs cmr cdr
      cases hlo : lowD d x with
      | false =>
        have FE : Hid ((own.take (j + 1)).filter (lowD d) = (own.take j).filter (lowD d)) := Lib.hid (by rw [TS.out, List.filter_append, List.filter_cons_of_neg (by rw [hlo]; decide), List.filter_nil, List.append_nil])
        have SE : Hid ((own.take (j + 1)).foldl f3F m = f3F sm x) := Lib.hid (by rw [TS.out, List.foldl_append, HSUM.out]; rfl)
        have i5 : decide (bits BinOp.and IntKind.i64 x 7 < d) = false := hlo
        clear hlo
        go_wp2_with fail
        refine ⟨?_, ?_⟩
        · repeat apply Exists.intro
          refine ⟨?_, rfl⟩
          exact ⟨j + 1, Aw, cw, nw, f3F sm x, by go_num, by omega, rfl, rfl, by rw [FE.out]; exact ⟨ROW9.out, HLEN.out⟩, SE.out, HB9.out, HNEW.out⟩
        · simp [intOf]; omega
      | true =>
        have FE : Hid ((own.take (j + 1)).filter (lowD d) = (own.take j).filter (lowD d) ++ [x]) := Lib.hid (by rw [TS.out, List.filter_append, List.filter_cons_of_pos hlo, List.filter_nil])
        have SE : Hid ((own.take (j + 1)).foldl f3F m = f3F sm x) := Lib.hid (by rw [TS.out, List.foldl_append, HSUM.out]; rfl)
        have i5 : decide (bits BinOp.and IntKind.i64 x 7 < d) = true := hlo
        obtain ⟨fs, hfs⟩ : ∃ fs, (own.take j).filter (lowD d) = fs := ⟨_, rfl⟩
        rw [hfs] at FE HLEN ROW9
        obtain ⟨V1', hV1'⟩ : ∃ v, v = V9.alloc (.cells #[.int .i64 x] 3) := ⟨_, rfl⟩
        have R1 : Hid (RowA V1' 3 Aw cw (fv fs)) := Lib.hid (by rw [hV1']; exact ROW9.out.keepF (Keep.alloc V9 _) (fun a ha h => h))
        have SC : Hid (Src V1' (some ⟨V9.heap.size, 0, none⟩) 1 [.int .i64 x]) := Lib.hid (by rw [hV1']; exact Src.one V9 3 (.int .i64 x) (0, 0) 1)
        have BX : Hid (Below w9.heap.size w9 V1') := Lib.hid (by rw [hV1']; exact HB9.out.alloc HB9.out.size _)
        have HVV := Lib.hid hV1'
        clear hlo hV1' hfs
        go_wp2_with (at_builtin; go_loud (rw [← HVV.out]; refine wpList_row_app fcells_I rfl _ _ rfl Aw nw cw (fv fs) rfl R1.out (by rw [fv_len]; exact HLEN.out) _ 1 1 [.int .i64 x] rfl rfl SC.out (by intro u hu; obtain rfl : u = .int .i64 x := (by simpa using hu); rfl) (by omega) ?_))
        intro A2 c2 V2 r2 k2 w2'
        have hnew2 : ∀ a, A2 = some a → w9.heap.size ≤ a.block := fun a ha => by
          rcases w2' with e | ⟨g, e, hg⟩
          · exact HNEW.out a (by rw [← e]; exact ha)
          · rw [e] at ha; injection ha with ha; subst ha
            have hg : V1'.heap.size ≤ g := hg
            have := BX.out.size
            show w9.heap.size ≤ g
            omega
        have REL : Hid ((RowA V2 3 A2 c2 (fv ((own.take (j + 1)).filter (lowD d))) ∧ ((own.take (j + 1)).filter (lowD d)).length = nw + 1) ∧ (own.take (j + 1)).foldl f3F m = f3F sm x ∧ Below w9.heap.size w9 V2 ∧ (∀ a, A2 = some a → w9.heap.size ≤ a.block)) := Lib.hid ⟨by rw [FE.out, fv_app]; exact ⟨r2, by rw [List.length_append, HLEN.out]; rfl⟩, SE.out, k2.below (fun q hq => by obtain ⟨a, ha, rfl⟩ := hq; exact HNEW.out a ha) BX.out BX.out.size, hnew2⟩
        clear r2 k2 w2' hnew2 R1 SC HVV
        go_wp2_with fail
        refine ⟨?_, ?_⟩
        · repeat apply Exists.intro
          refine ⟨?_, rfl⟩
          exact ⟨j + 1, A2, c2, nw + 1, f3F sm x, by go_num, by omega, rfl, rfl, REL.out⟩
        · simp [intOf]; omega
    · have ET : Hid (own.take j = own) := Lib.hid (List.take_of_length_le (by rw [O2.out]; omega))
      rw [ET.out] at HROW HLEN HSUM
      rw [HKS.out] at HROW HLEN
      have e1 : sm = tot := HSUM.out.symm.trans HTOT.out
      have e2 : nw = nk := HLEN.out.symm.trans HNK.out
      subst e1 e2
      rw [HQM.out]
      have OWr := Lib.hid (O1.out.below (BW9.out.trans (HBEL.out.mono BW9.out.size)))
      have SM1 := Lib.hid (isame_f Aa A k ca cap own wr (by omega) O2.out (RA9.out.below HBEL.out).ifw OWr.out)
      have RCr := Lib.hid (RC9.out.below HBEL.out)
      have LSr := Lib.hid (L3.out.later (B9.out.trans (HBEL.out.mono B9.out.size)))
      have i6 : ((k : Int) == (k : Int)) = true := by simp
      have i7 : (sm == sm) = true := by simp
      go_wp2_with fail
      refine SM1.out.mono ?_
      rintro e v1 ⟨rfl, c1⟩
      have SM2 := Lib.hid (isame_f Ac Aw nw cc cw ks v1 (by omega) HNK.out (RCr.out.below c1).ifw (HROW.out.below c1).ifw)
      have O1v := Lib.hid (OWr.out.below c1); have L1v := Lib.hid (LSr.out.later c1); have C1 := Lib.hid (HBEL.out.trans (c1.mono HBEL.out.size))
      clear SM1 c1
      go_wp2_with fail
      refine SM2.out.mono ?_
      rintro e v2 ⟨rfl, c2⟩
      have LL := Lib.hid ((L1v.out.later c2).list ENS.out.1)
      rw [O2.out] at LL
      have O2v := Lib.hid (O1v.out.below c2); have C2 := Lib.hid (C1.out.trans (c2.mono C1.out.size))
      clear SM2 c2
      go_wp2_with fail
      refine LL.out.mono ?_
      rintro e v3 ⟨Al, cl, rfl, rl, c3⟩
      have SM3 := Lib.hid (isame_f Al A k cl cap own v3 (by omega) O2.out rl.ifw (O2v.out.below c3))
      have C3 := Lib.hid (C2.out.trans (c3.mono C2.out.size))
      clear LL rl c3
      go_wp2_with fail
      refine SM3.out.mono ?_
      rintro e v4 ⟨rfl, c4⟩
      have FRN := Lib.hid (fruns_any v4)
      have C4 := Lib.hid (C3.out.trans (c4.mono C3.out.size))
      clear SM3 c4
      go_wp2_with fail
      refine FRN.out.mono ?_
      rintro e v5 ⟨rfl, c5⟩
      have BF : Hid (Below w.heap.size w v5) := Lib.hid (BW9.out.trans ((C4.out.trans (c5.mono C4.out.size)).mono BW9.out.size))
      clear FRN c5
      go_wp2_with fail
      go_ret
      exact ⟨rfl, BF.out⟩
end Go.Proofs.Ytjjkddahfmkhoaa
