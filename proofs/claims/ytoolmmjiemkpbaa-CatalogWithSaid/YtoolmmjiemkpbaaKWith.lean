/-
  The walk of the statement CatalogWith: the call returns true; nothing that was in memory turns.
-/
import Derived.Test.YtoolmmjiemkpbaaKRuns
import Derived.Test.YtoolmmjiemkpbaaZ2
import Derived.Test.YtoolmmjiemkpbaaKWa
import Derived.Test.YtoolmmjiemkpbaaBSmF
import Derived.Lib.MinMax
import Derived.BigRegion
import Derived.BigQuiet
import Derived.Deep.QuietTactic
import Derived.Deep.DeepCutAuto
namespace Go.Proofs.Ytoolmmjiemkpbaa
set_option linter.unusedVariables false
set_option linter.unusedSimpArgs false
set_option maxRecDepth 100000
open Go.RowKit

theorem IR.take {w : World} {N : Nat} {A : Option Addr} {l : List Int} (h : IR w N A l) (k : Nat) : IR w N A (l.take k) := fun i hi => by
  rw [List.length_take] at hi
  have e : iAt (l.take k) i = iAt l i := by
    unfold iAt
    rw [List.getD_eq_getElem?_getD, List.getElem?_take, if_pos (by omega), List.getD_eq_getElem?_getD]
  rw [e]
  exact h i (by omega)
theorem right_rise {c : Ct} (h : c.Right) : RiseS Fl.name c.files := by
  unfold RiseS
  rw [List.pairwise_iff_getElem]
  have key : ∀ k i, i + k + 1 < c.files.length → (flAt c.files i).name < (flAt c.files (i + k + 1)).name := fun k => by
    induction k with
    | zero => intro i hi; exact h.r i hi
    | succ k ih => intro i hi; have h1 := ih i (by omega); have h2 := h.r (i + k + 1) hi; have e : i + (k + 1) + 1 = i + k + 1 + 1 := by omega
                   rw [e]; omega
  intro i j hi hj hij
  have := key (j - i - 1) i (by omega)
  have e : i + (j - i - 1) + 1 = j := by omega
  rw [e] at this
  rw [flAt_get hi, flAt_get hj]
  exact this
theorem riseS_at {l : List Fl} (h : RiseS Fl.name l) {i j : Nat} (hij : i < j) (hj : j < l.length) : (flAt l i).name < (flAt l j).name := by
  have := List.pairwise_iff_getElem.1 h i j (by omega) hj hij
  rw [flAt_get (by omega), flAt_get hj] at this
  exact this
theorem withF_len (fs put : List Fl) (gone : List Int) : (withF fs put gone).length ≤ put.length + fs.length := by
  unfold withF
  rw [isort_length, List.length_append]
  have h1 := lasts_length Fl.name (isort Fl.name put)
  rw [isort_length] at h1
  have h2 := List.length_filter_le (fun f : Fl => !decide (f.name ∈ gone ++ (lasts Fl.name (isort Fl.name put)).map Fl.name)) fs
  omega
attribute [local go_sem ↓] neqCd_eq neqFl_eq
/-- What is there when the names are asked for. -/
structure KW (w wd : World) (b d : Nat) (E : Ct) (A : Option Addr) (n cap : Nat) (G : List Fl) (A9 : Option Addr) (n9 c9 : Nat) : Prop where
  c : CtAt wd b E A n cap
  d : CtAt wd d { E with files := G } A9 n9 c9
  f : FlR wd w.heap.size A E.files
  g : OwnF wd w.heap.size A9 n9 c9 G
  s : Below w.heap.size w wd
theorem KW.below {w wd w' : World} {b d : Nat} {E : Ct} {A : Option Addr} {n cap : Nat} {G : List Fl} {A9 : Option Addr} {n9 c9 : Nat} (h : KW w wd b d E A n cap G A9 n9 c9) (k : Below wd.heap.size wd w') : KW w w' b d E A n cap G A9 n9 c9 :=
  ⟨h.c.below k, h.d.below k, h.f.below (k.mono h.s.size), h.g.below k, bstep h.s k⟩
theorem KW.appI {w wd w' : World} {b d : Nat} {E : Ct} {A : Option Addr} {n cap : Nat} {G : List Fl} {A9 : Option Addr} {n9 c9 : Nat} (h : KW w wd b d E A n cap G A9 n9 c9) {A2 : Option Addr} {m2 c2 g' : Nat} {li : List Int} (o : OwnI wd w.heap.size A2 m2 c2 li) (k : FlKeep A2 g' wd w') : KW w w' b d E A n cap G A9 n9 c9 :=
  ⟨h.c.fk k (fun a ha => ct_ne_i h.c o a ha), h.d.fk k (fun a ha => ct_ne_i h.d o a ha), h.f.keep k.1 h.s.size (fun q ⟨a, ha, e⟩ => by rw [e]; exact (o.lt a ha).1), h.g.fk k (fun a b' ha hb => f_ne_i h.g o a b' ha hb), k.below (fun a ha => (o.lt a ha).1) h.s h.s.size⟩
/-- The names that are asked for. -/
def nmsTo (nm : Int) (l : List Fl) (i : Nat) : List Int := nm :: (l.map Fl.name).take i
theorem nmsTo_succ (nm : Int) (l : List Fl) (i : Nat) (hi : i < l.length) : nmsTo nm l (i + 1) = nmsTo nm l i ++ [(flAt l i).name] := by
  unfold nmsTo
  rw [List.take_succ_eq_append_getElem (by rw [List.length_map]; exact hi), List.getElem_map, flAt_get hi]
  rfl
theorem OwnI.one (w : World) (base : Nat) (hb : base ≤ w.heap.size) (x : Int) (hx : I64x x) : OwnI (w.alloc (.cells #[.int .i64 x] 3)) base (some ⟨w.heap.size, 0, none⟩) 1 1 [x] :=
  ⟨RowN.mk (cur := #[.int .i64 x]) hb (heap_alloc_new w _) (Nat.le_refl _) (by decide) rfl rfl, rfl, fun i hi => by
    obtain rfl : i = 0 := by omega
    exact hx⟩
set_option maxHeartbeats 16000000 in
theorem kwith_any (c : Ct) (A : Option Addr) (n0 cap : Nat) (zp : List Fl) (Ap : Option Addr) (np0 cp : Nat) (zg : List Int) (Ag : Option Addr) (ng0 cg : Nat) (nm : Int) (w : World) (hc : CtIn w c A n0 cap)
    (hp : FlR w w.heap.size Ap zp) (hpl : zp.length = np0) (hpc : np0 ≤ cp) (hpm : cp ≤ maxLen) (hpn : Ap = none → cp = 0) (hg : IR w w.heap.size Ag zg) (hgl : zg.length = ng0) (hgc : ng0 ≤ cg) (hgm : cg ≤ maxLen) (hnm : I64 nm) :
    Calls Try.prog 3 #[.agg (ctv c A n0 cap).toArray, .slice Ap np0 cp, .slice Ag ng0 cg, .int .i64 nm] w fun e w' => e = .returned (.bool true) ∧ Below w.heap.size w w' := by
  unfold maxLen at hpm hgm
  obtain ⟨n, hn⟩ : ∃ n : Nat, n = min n0 14 := ⟨_, rfl⟩
  have en : min (n0 : Int) 14 = (n : Int) := by omega
  obtain ⟨np, hnp⟩ : ∃ n : Nat, n = min np0 6 := ⟨_, rfl⟩
  have enp : min (np0 : Int) 6 = (np : Int) := by omega
  obtain ⟨ng, hng⟩ : ∃ n : Nat, n = min ng0 6 := ⟨_, rfl⟩
  have eng : min (ng0 : Int) 6 = (ng : Int) := by omega
  obtain ⟨D, hD⟩ : ∃ D : Ct, D = { c with files := c.files.take n } := ⟨_, rfl⟩
  have IN : Hid (CtIn w D A n cap) := Lib.hid (by rw [hD]; exact hc.take (by omega))
  obtain ⟨put, hput⟩ : ∃ p, p = zp.take np := ⟨_, rfl⟩
  obtain ⟨gone, hgone⟩ : ∃ p, p = zg.take ng := ⟨_, rfl⟩
  have PF : Hid (FlR w w.heap.size Ap put) := Lib.hid (by rw [hput]; exact hp.take np)
  have PL : Hid (put.length = np) := Lib.hid (by rw [hput, List.length_take, hpl]; omega)
  have GF : Hid (IR w w.heap.size Ag gone) := Lib.hid (by rw [hgone]; exact hg.take ng)
  have GL : Hid (gone.length = ng) := Lib.hid (by rw [hgone, List.length_take, hgl]; omega)
  have PN := Lib.hid hpn
  have n14 : n ≤ 14 := by omega
  have np6 : np ≤ 6 := by omega
  have ng6 : ng ≤ 6 := by omega
  have g1 : (n : Int) ≤ (cap : Int) := by have := IN.out.le; omega
  have g2 : (np : Int) ≤ (cp : Int) := by omega
  have g3 : (ng : Int) ≤ (cg : Int) := by omega
  have g4 : (0 : Int) ≤ (n : Int) := by omega
  have g5 : (0 : Int) ≤ (np : Int) := by omega
  have g6 : (0 : Int) ≤ (ng : Int) := by omega
  have hcm : cap ≤ 9223372036854775807 := IN.out.mx
  have n0c := hc.le
  obtain ⟨nm0, nm1⟩ := id hnm
  have HNM := Lib.hid hnm
  have HD := Lib.hid hD
  clear hn hnp hng hD hput hgone hp hpl hpn hg hgl hc hnm
  go_enter Try.func3, Try.ntmps3
  go_wp2_with (with_reducible refine box_ct rfl _ rfl c A n0 cap rfl ?_)
  intro w1 l1 b1 s1
  obtain ⟨b, hb⟩ : ∃ p, p = w.heap.size := ⟨_, rfl⟩
  rw [← hb] at l1 ⊢
  have L1 := Lib.hid l1; have B1 := Lib.hid b1
  have hbw : w.heap.size ≤ b := by omega
  clear s1 hb l1 b1
  obtain ⟨_, _, _, _, _, _, _, _, x8⟩ := L1.out.cells
  have fx8 := Arr.frozen L1.out 8
  have C2 : Hid (CtAt (w1.setCell ⟨b, 8, none⟩ (.slice A n cap)).drew b D A n cap) := Lib.hid (by rw [HD.out]; exact (CtAt.files (c := { c with files := c.files.take n }) L1.out).below (Below.refl _ _).drew)
  have B2 : Hid (Below w.heap.size w (w1.setCell ⟨b, 8, none⟩ (.slice A n cap)).drew) := Lib.hid ((keep_set (F := (· = b)) rfl).below (fun k hk => by omega) B1.out B1.out.size).drew
  go_upto_region 1 with fail
  go_region
  go_upto_region 2 with fail
  obtain ⟨w2, hw2⟩ : ∃ w2, w2 = (w1.setCell ⟨b, 8, none⟩ (.slice A n cap)).drew := ⟨_, rfl⟩
  rw [← hw2] at C2 B2
  rw [← hw2]
  clear hw2 x8 fx8 L1 B1 g1 g2 g3 g4 g5 g6 en enp eng n0c
  have F2 := Lib.hid (IN.out.fl.below B2.out)
  have RC := Lib.hid (cat_any D IN.out.ok w.heap.size A n cap w2 IN.out.ln (by unfold maxLen; omega) F2.out B2.out.size)
  go_wp2_with (with_reducible refine load_ct rfl _ rfl b D A n cap C2.out rfl ?_)
  refine RC.out.mono ?_
  rintro e w3 ⟨rfl, b3⟩
  have C3 := Lib.hid (C2.out.below b3)
  have F3 := Lib.hid (F2.out.below (b3.mono B2.out.size))
  have B3 := Lib.hid (bstep B2.out b3)
  clear b3 RC F2 C2 B2
  obtain ⟨rt, hrt⟩ : ∃ q, D.rt = q := ⟨_, rfl⟩
  rw [hrt]
  go_upto_if 45 with fail
  go_cut [] (fun wd => ∃ (E : Ct) (A : Option Addr) (n cap : Nat), n ≤ 14 ∧ E.Right ∧ E.files.length = n ∧ CtAt wd b E A n cap ∧ FlR wd w.heap.size A E.files ∧ (A = none → cap = 0) ∧ Below w.heap.size w wd)
  case first =>
    cases rt
    · clear hrt
      go_wp2_with (first | (with_reducible refine build_ct0 rfl rfl ?_) | (with_reducible refine store_ct rfl _ _ rfl b D Ct.zero A none n 0 cap 0 C3.out rfl rfl ?_))
      intro w7 l7 k7 s7
      have L7 := Lib.hid l7
      have B7 := Lib.hid (k7.below (fun k hk => by omega) B3.out B3.out.size)
      clear l7 k7 s7
      go_wp2
      go_meet
      case rel => exact ⟨Ct.zero, none, 0, 0, by omega, Ct.zero_right, rfl, L7.out, fun i hi => absurd hi (by show ¬ i < 0; omega), fun _ => rfl, B7.out⟩
    · have RG := Lib.hid (Ct.rt_iff.1 hrt)
      clear hrt
      go_wp2
      go_meet
      case rel => exact ⟨D, A, n, cap, n14, RG.out, IN.out.ln, C3.out, F3.out, fun e => (IN.out.nil e).2, B3.out⟩
  case rest =>
    clear C3 F3 B3 hrt
    obtain ⟨E, A, n, cap, n14, rg, el, c3, f3, nl, b3⟩ := hcut
    have RG := Lib.hid rg; have EL := Lib.hid el; have C3 := Lib.hid c3; have F3 := Lib.hid f3; have NL := Lib.hid nl; have B3 := Lib.hid b3
    have EOK : Hid E.Ok := Lib.hid (by
      obtain ⟨h1, h2, h3, h4⟩ := rg.card
      have g := rg.g; have s := rg.s; have t := rg.t
      exact ⟨⟨by omega, by omega⟩, ⟨by omega, by omega⟩, ⟨by omega, by omega⟩, ⟨⟨by omega, by omega⟩, ⟨by omega, by omega⟩, ⟨by omega, by omega⟩, ⟨by omega, by omega⟩⟩⟩)
    have hwc : w.heap.size ≤ wc.heap.size := b3.size
    clear rg el c3 f3 nl b3 IN HD
    obtain ⟨_, _, _, _, _, _, _, _, x8⟩ := C3.out.cells
    have hbc : b < wc.heap.size := C3.out.lt
    have F3a := Lib.hid (F3.out.below ((below_alloc wc (.cells #[] 33)).mono hwc))
    have EFO : Hid (∀ i, i < E.files.length → (flAt E.files i).Ok) := Lib.hid (fun i hi => by obtain ⟨_, _, _, _, _, _, _, _, q⟩ := F3.out i hi; exact q)
    go_wp2_with (at_builtin; go_loud (refine app_fls rfl _ _ rfl w.heap.size 0 0 wc.heap.size [] rfl (OwnF.empty wc w.heap.size hwc) w.heap.size A n cap E.files rfl EL.out F3a.out NL.out (by omega) (by simp; omega) ?_))
    intro gw cw w4 o4 fk
    have b4 : Below wc.heap.size wc w4 := fk.below (fun a ha => by injection ha with ha; subst ha; exact Nat.le_refl _) (below_alloc _ _) (by simp)
    have W4 : Hid (OwnF w4 w.heap.size (some ⟨gw, 0, none⟩) n cw E.files) := Lib.hid o4
    have C4 := Lib.hid (C3.out.below b4)
    have F4 := Lib.hid (F3.out.below (b4.mono hwc))
    have B4 := Lib.hid (bstep B3.out b4)
    have hw4 : w.heap.size ≤ w4.heap.size := by have := b4.size; omega
    clear o4 fk b4 x8 C3 F3 B3 F3a hwc
    have WA := Lib.hid (with_any E put gone w.heap.size A n cap Ap np cp Ag ng cg w4 EL.out PL.out GL.out (by omega) (by omega) F4.out (PF.out.below B4.out) (GF.out.below B4.out) hw4)
    have GR := Lib.hid (withF_rise E.files put gone (right_rise RG.out))
    have GW : Hid (∀ x, fnd Fl.name x (withF E.files put gone) = want5 x E.files put gone put.length) := Lib.hid (fun x => (want5_all x E.files put gone).symm)
    have GLE := Lib.hid (withF_len E.files put gone)
    obtain ⟨G, hG⟩ : ∃ G, withF E.files put gone = G := ⟨_, rfl⟩
    rw [hG] at WA GR GW GLE
    clear hG
    go_wp2_with (with_reducible refine load_ct rfl _ rfl b E A n cap C4.out rfl ?_)
    refine WA.out.mono ?_
    rintro e w5 ⟨A9, n9, c9, rfl, o5, b5⟩
    have W5 := Lib.hid (W4.out.below b5)
    have C5 := Lib.hid (C4.out.below b5)
    have F5 := Lib.hid (F4.out.below (b5.mono hw4))
    have G5 := Lib.hid (o5.weak (base' := w.heap.size) (fun a ha => by have := (o5.lt a ha).1; omega))
    have B5 := Lib.hid (bstep B4.out b5)
    have hw5 : w.heap.size ≤ w5.heap.size := by have := b5.size; omega
    clear o5 b5 WA W4 C4 F4 B4 hw4
    go_wp2_with (with_reducible refine alloc_ct rfl rfl ?_)
    intro w6 l6 b6 s6
    obtain ⟨d, hd⟩ : ∃ d, d = w5.heap.size := ⟨_, rfl⟩
    rw [← hd] at l6 ⊢
    have D6 := Lib.hid l6
    have W6 := Lib.hid (W5.out.below b6)
    have C6 := Lib.hid (C5.out.below b6)
    have F6 := Lib.hid (F5.out.below (b6.mono hw5))
    have G6 := Lib.hid (G5.out.below b6)
    have B6 := Lib.hid (bstep B5.out b6)
    have hbd : b < d := by have := C5.out.lt; omega
    have hgwd : gw < d := by have := (W5.out.lt _ rfl).2; have e : gw < w5.heap.size := this; omega
    have OD : Hid (∀ a, A9 = some a → a.block < d) := Lib.hid (fun a ha => by have := (G5.out.lt a ha).2; omega)
    have hwd : w.heap.size ≤ d := by omega
    clear l6 b6 s6 hd W5 C5 F5 G5 B5 hw5
    go_wp2_with (with_reducible refine store_ct rfl _ _ rfl d Ct.zero { E with files := G } none A9 0 n9 0 c9 D6.out rfl rfl ?_)
    intro w7 l7 k7 s7
    have K7 : Hid (KW w w7 b d E A n cap G A9 n9 c9) := Lib.hid ⟨C6.out.keep k7 (by omega), l7, F6.out.keep k7 B6.out.size (fun q hq => by omega), G6.out.keep k7 (fun a ha e => by have := OD.out a ha; omega), k7.below (fun k hk => by omega) B6.out B6.out.size⟩
    have W7 := Lib.hid (W6.out.keep k7 (fun a ha e => by injection ha with ha; subst ha; have e : gw = d := e; omega))
    clear l7 k7 s7 D6 W6 C6 F6 G6 B6
    have SM := Lib.hid (fsame_eq w7.heap.size A (some ⟨gw, 0, none⟩) n n cap cw E.files E.files w7 (by unfold maxLen; omega) (by unfold maxLen; omega) EL.out EL.out (K7.out.f.more K7.out.s.size) W7.out.reads (Nat.le_refl _))
    rw [decide_eq_true (rfl : E.files = E.files)] at SM
    obtain ⟨_, _, _, _, _, _, _, _, x8⟩ := K7.out.c.cells
    go_wp2_with fail
    refine SM.out.mono ?_
    rintro e w8 ⟨rfl, b8⟩
    have K8 := Lib.hid (K7.out.below b8)
    have W8 := Lib.hid (W7.out.below b8)
    clear b8 SM x8 K7 W7
    obtain ⟨x0, x1, x2, x3, x4, x5, x6, x7, x8⟩ := K8.out.c.cells
    obtain ⟨y0, y1, y2, y3, y4, y5, y6, y7, y8⟩ := K8.out.d.cells
    have q0 := RG.out.g
    have q1 := RG.out.s
    have nq := neqCd_run E.card E.card
    rw [decide_eq_true (rfl : E.card = E.card), Bool.not_true] at nq
    have eg := cd_guard
    go_upto_region 8 with fail
    clear x0 x1 x2 x3 x4 x5 x6 x7 x8 y0 y1 y2 y3 y4 y5 y6 y7 y8 q0 q1 nq eg
    have hn9 : Hid (G.length = n9) := Lib.hid K8.out.g.2.1
    have n9le : n9 ≤ 20 := by have := hn9.out; have := GLE.out; have := EL.out; have := PL.out; omega
    go_wp2
    go_loopw [11] (fun iv wr => ∃ i : Nat, 1 ≤ i ∧ i ≤ n9 + 1 ∧ iv = .int .i64 i ∧ Below w8.heap.size w8 wr) (fun iv _ => n9 + 1 - (intOf iv).toNat)
    case atStart => exact ⟨1, by omega, by omega, rfl, Below.refl _ _⟩
    case round =>
      obtain ⟨i, hi1, hi, rfl, bw⟩ := hrel
      have K9 := Lib.hid (K8.out.below bw)
      have W9 := Lib.hid (W8.out.below bw)
      have BW := Lib.hid bw
      clear bw
      obtain ⟨_, _, _, _, _, _, _, _, y8⟩ := K9.out.d.cells
      by_cases hlt : i < n9
      · have i1 : decide ((i : Int) < (n9 : Int)) = true := by rw [decide_eq_true_eq]; omega
        obtain ⟨m, rfl⟩ : ∃ m, i = m + 1 := ⟨i - 1, by omega⟩
        obtain ⟨g9, e9, hgx⟩ := K9.out.g.1.at (by omega)
        subst e9
        clear hgx
        obtain ⟨u0, _, _, _, uok⟩ := K9.out.g.cells4 m (by omega)
        obtain ⟨v0, _, _, _, vok⟩ := K9.out.g.cells4 (m + 1) hlt
        have lt := riseS_at GR.out (i := m) (j := m + 1) (by omega) (by rw [hn9.out]; exact hlt)
        obtain ⟨x, hx⟩ : ∃ x, (flAt G m).name = x := ⟨_, rfl⟩
        obtain ⟨y, hy⟩ : ∃ y, (flAt G (m + 1)).name = y := ⟨_, rfl⟩
        rw [hx] at u0 lt
        rw [hy] at v0 lt
        have d1 : decide (x ≥ y) = false := by rw [decide_eq_false_iff_not]; omega
        have d2 : decide (y ≤ x) = false := by rw [decide_eq_false_iff_not]; omega
        have mw : IntKind.i64.wrap (m : Int) = m := IntWalk.i64_in _ (by omega)
        have mw1 : IntKind.i64.wrap ((m : Int) + 1 + 1) = (m : Int) + 1 + 1 := IntWalk.i64_in _ (by omega)
        have b1 : (m : Int) + 1 < (n9 : Int) := by omega
        have b2 : (m : Int) < (n9 : Int) := by omega
        have b3 : (0 : Int) ≤ (m : Int) + 1 := by omega
        clear hx hy lt uok vok
        go_wp2
        go_quiet (fail)
        go_wp2
        go_roundw
        case rel => exact ⟨m + 1 + 1, by omega, by omega, by go_num, ⟨BW.out.os, BW.out.tape, BW.out.output, BW.out.size, BW.out.block⟩⟩
        case measure => simp [intOf]; omega
      · have i1 : decide ((i : Int) < (n9 : Int)) = false := by rw [decide_eq_false_iff_not]; omega
        go_upto_region 14 with fail
        obtain ⟨X, hX⟩ : ∃ X, X = wr.alloc (.cells #[.int .i64 nm] 3) := ⟨_, rfl⟩
        rw [← hX]
        have bX : Below wr.heap.size wr X := by rw [hX]; exact below_alloc _ _
        have NX : Hid (OwnI X w.heap.size (some ⟨wr.heap.size, 0, none⟩) 1 1 [nm]) := Lib.hid (by rw [hX]; exact OwnI.one wr w.heap.size K9.out.s.size nm HNM.out)
        have KX := Lib.hid (K9.out.below bX)
        have WX := Lib.hid (W9.out.below bX)
        have PX := Lib.hid (PF.out.below KX.out.s)
        have hwX : w.heap.size ≤ X.heap.size := KX.out.s.size
        obtain ⟨gn, hgn⟩ : ∃ g, g = wr.heap.size := ⟨_, rfl⟩
        rw [← hgn] at NX ⊢
        have hgX : gw < X.heap.size := (WX.out.lt _ rfl).2
        clear hX bX hgn y8 K9 W9 K8 W8 BW
        refine wp_region_held_drew (S := fun w' => Below X.heap.size X w') (by kernel_rfl) (Below.refl _ _).drew (fun HS => ?_)
        have LD : Hid (∀ w', Below X.heap.size X w' → w'.cell? ⟨d, 8, none⟩ = some (.slice A9 n9 c9)) := Lib.hid (fun w' h => (KX.out.below h).d.cells.2.2.2.2.2.2.2.2)
        refine takeY (i := 1) (d := 105) (v := ?_) rfl rfl (by kernel_rfl) (by kernel_rfl) (by kernel_rfl) (fun _ _ _ h => h) (by rfl) ?_ HS ?_
        rotate_left
        · intro w' hSw
          go_simp
          try with_reducible rfl
        simp only [Act.put, List.setIfInBounds_toArray, List.set_cons_zero, List.set_cons_succ]
        refine takeY (i := 3) (d := 107) (v := ?_) rfl rfl (by kernel_rfl) (by kernel_rfl) (by kernel_rfl) (fun _ _ _ h => h) (by rfl) ?_ HS ?_
        rotate_left
        · intro w' hSw
          go_simp
          try with_reducible rfl
        simp only [Act.put, List.setIfInBounds_toArray, List.set_cons_zero, List.set_cons_succ]
        refine takeY (i := 5) (d := 109) (v := ?_) rfl rfl (by kernel_rfl) (by kernel_rfl) (by kernel_rfl) (fun _ _ _ h => h) (by rfl) ?_ HS ?_
        rotate_left
        · intro w' hSw
          go_simp
          try with_reducible rfl
        simp only [Act.put, List.setIfInBounds_toArray, List.set_cons_zero, List.set_cons_succ]
        refine takeY (i := 6) (d := 110) (v := ?_) rfl rfl (by kernel_rfl) (by kernel_rfl) (by kernel_rfl) (fun _ _ _ h => h) (by rfl) ?_ HS ?_
        rotate_left
        · intro w' hSw
          have hc' := LD.out w' hSw
          go_simp
          try with_reducible rfl
        simp only [Act.put, List.setIfInBounds_toArray, List.set_cons_zero, List.set_cons_succ]
        refine takeY (i := 9) (d := 113) (v := ?_) rfl rfl (by kernel_rfl) (by kernel_rfl) (by kernel_rfl) (fun _ _ _ h => h) (by rfl) ?_ HS ?_
        rotate_left
        · intro w' hSw
          go_simp
          try with_reducible rfl
        simp only [Act.put, List.setIfInBounds_toArray, List.set_cons_zero, List.set_cons_succ]
        refine wpAnyH_ready (rs := [0]) (by kernel_rfl) (by simp) ?_
        refine AllReadyH.cons rfl (fun K hK => ?_) AllReadyH.nil
        go_simp
        obtain ⟨v1, hv1⟩ : ∃ v1, v1 = (X.alloc (.cells #[] 33)).drew := ⟨_, rfl⟩
        rw [← hv1]
        have O1 : Hid (OwnF v1 X.heap.size (some ⟨X.heap.size, 0, none⟩) 0 0 []) := Lib.hid (by rw [hv1]; exact (OwnF.empty X X.heap.size (Nat.le_refl _)).drew)
        have H1 : Below X.heap.size X v1 := by rw [hv1]; exact (below_alloc _ _).drew
        refine hK.out _ _ H1 (fun HT1 => ?_)
        clear hK hv1 H1
        try simp only [Act.put, List.setIfInBounds_toArray, List.set_cons_zero, List.set_cons_succ]
        refine wpAnyH_ready (rs := [2]) (by kernel_rfl) (by simp) ?_
        refine AllReadyH.cons rfl (fun K hK => ?_) AllReadyH.nil
        refine step_fls rfl _ _ rfl X.heap.size 0 0 X.heap.size [] rfl O1.out X.heap.size (some ⟨gw, 0, none⟩) n cw E.files rfl EL.out (WX.out.reads.below HT1) (fun e => by cases e) (by omega) HT1.size ?_
        intro g2 k2 v2 o2 fk2
        have H2 : Below X.heap.size X v2 := fk2.below (fun a ha => by injection ha with ha; subst ha; exact Nat.le_refl _) HT1 HT1.size
        have hg2 : X.heap.size ≤ g2 := (o2.lt _ rfl).1
        have O2 := Lib.hid o2
        refine hK.out _ _ H2 (fun HT2 => ?_)
        clear hK H2 o2 fk2 O1
        try simp only [Act.put, List.setIfInBounds_toArray, List.set_cons_zero, List.set_cons_succ]
        refine wpAnyH_ready (rs := [4]) (by kernel_rfl) (by simp) ?_
        refine AllReadyH.cons rfl (fun K hK => ?_) AllReadyH.nil
        refine step_fls rfl _ _ rfl X.heap.size (0 + n) k2 g2 ([] ++ E.files) rfl O2.out w.heap.size Ap np cp put rfl PL.out (PX.out.below (HT2.mono hwX)) PN.out (by omega) HT2.size ?_
        intro g3 k3 v3 o3 fk3
        have H3 : Below X.heap.size X v3 := fk3.below (fun a ha => by injection ha with ha; subst ha; exact hg2) HT2 HT2.size
        have hg3 : X.heap.size ≤ g3 := (o3.lt _ rfl).1
        have O3 := Lib.hid o3
        refine hK.out _ _ H3 (fun HT3 => ?_)
        clear hK H3 o3 fk3 O2
        try simp only [Act.put, List.setIfInBounds_toArray, List.set_cons_zero, List.set_cons_succ]
        refine wpAnyH_ready (rs := [7]) (by kernel_rfl) (by simp) ?_
        refine AllReadyH.cons rfl (fun K hK => ?_) AllReadyH.nil
        refine step_fls rfl _ _ rfl X.heap.size (0 + n + np) k3 g3 ([] ++ E.files ++ put) rfl O3.out X.heap.size A9 n9 c9 G rfl hn9.out (KX.out.g.reads.below HT3) (fun e => by have := KX.out.g.1.parts; rcases this with ⟨_, q, _⟩ | ⟨_, _, q, _⟩; exact q; rw [e] at q; cases q) (by omega) HT3.size ?_
        intro g4 k4 v4 o4 fk4
        have H4 : Below X.heap.size X v4 := fk4.below (fun a ha => by injection ha with ha; subst ha; exact hg3) HT3 HT3.size
        have O4 := Lib.hid o4
        refine hK.out _ _ H4 (fun HT4 => ?_)
        clear hK H4 o4 fk4 O3
        try simp only [Act.put, List.setIfInBounds_toArray, List.set_cons_zero, List.set_cons_succ]
        refine takeY (i := 8) (d := 112) (v := ?_) rfl rfl (by kernel_rfl) (by kernel_rfl) (by kernel_rfl) (fun _ _ _ h => h) (by rfl) ?_ HT4 ?_
        rotate_left
        · intro w' hSw
          go_simp
          try with_reducible rfl
        simp only [Act.put, List.setIfInBounds_toArray, List.set_cons_zero, List.set_cons_succ]
        refine wpAnyH_done (by kernel_rfl) ?_ _
        obtain ⟨ALL, hALL⟩ : ∃ l, l = [] ++ E.files ++ put ++ G := ⟨_, rfl⟩
        obtain ⟨nA, hnA⟩ : ∃ k, k = 0 + n + np + n9 := ⟨_, rfl⟩
        rw [← hALL, ← hnA] at O4
        have OA : Hid (OwnF v4 w.heap.size (some ⟨g4, 0, none⟩) nA k4 ALL) := Lib.hid (O4.out.weak (fun a ha => by have := (O4.out.lt a ha).1; omega))
        have hnA40 : nA ≤ 40 := by omega
        have LA : Hid (ALL.length = nA) := Lib.hid OA.out.2.1
        have KV := Lib.hid (KX.out.below HT4)
        have NV := Lib.hid (NX.out.below HT4)
        have eA : (n : Int) + (np : Int) + (n9 : Int) = (nA : Int) := by omega
        have eB : n + np + n9 = nA := by omega
        clear hALL O4 HS HT1 HT2 HT3 HT4 KX NX WX LD hgX hg2 hg3
        clear hnA
        go_wp2
        go_loopw [12, 14, 113] (fun nv _ iv wr => ∃ (i : Nat) (A12 : Option Addr) (c12 : Nat), i ≤ nA ∧ iv = .int .i64 i ∧ nv = .slice A12 (1 + i) c12 ∧ OwnI wr w.heap.size A12 (1 + i) c12 (nmsTo nm ALL i) ∧ OwnF wr w.heap.size (some ⟨g4, 0, none⟩) nA k4 ALL ∧ KW w wr b d E A n cap G A9 n9 c9) (fun _ _ iv _ => nA - (intOf iv).toNat)
        case atStart => exact ⟨0, some ⟨gn, 0, none⟩, 1, Nat.zero_le _, rfl, rfl, NV.out, OA.out, KV.out⟩
        case round =>
          clear OA KV NV
          obtain ⟨i, A12, c12, hi, rfl, rfl, oi, oa, kw⟩ := hrel
          have OI := Lib.hid oi; have OA := Lib.hid oa; have K := Lib.hid kw
          clear oi oa kw
          by_cases hlt : i < nA
          · have i1 : decide ((i : Int) < (nA : Int)) = true := by rw [decide_eq_true_eq]; omega
            have bi : (i : Int) < (nA : Int) := by omega
            obtain ⟨z0, z1, z2, z3, fok⟩ := OA.out.cells4 i hlt
            have SN := Lib.hid (nmsTo_succ nm ALL i (by rw [LA.out]; exact hlt))
            obtain ⟨f, hf⟩ : ∃ f, flAt ALL i = f := ⟨_, rfl⟩
            rw [hf] at z0 z1 z2 z3 fok SN
            obtain ⟨f0, f1⟩ := id fok.a
            have FOK := Lib.hid fok.a
            clear hf fok
            obtain ⟨LS, hLS⟩ : ∃ l, nmsTo nm ALL i = l := ⟨_, rfl⟩
            rw [hLS] at OI SN
            clear hLS
            have bb := Lib.hid (bstep (below_alloc wr (.cells #[.int .i64 f.name, .int .i64 f.file, .int .i64 f.first, .int .i64 f.blocks] 33)) (below_alloc _ (.cells #[.int .i64 f.name] 3)))
            have VI := Lib.hid (OI.out.below bb.out)
            have VA := Lib.hid (OA.out.below bb.out)
            have VK := Lib.hid (K.out.below bb.out)
            go_wp2_with (at_builtin; go_loud (refine app_i _ rfl _ _ rfl w.heap.size (1 + i) c12 A12 LS rfl VI.out (wr.heap.size + 1) 1 f.name rfl (by simp) FOK.out (by omega) VK.out.s.size ?_))
            intro g' cap' w' o' fk
            have I2 : Hid (OwnI w' w.heap.size (some ⟨g', 0, none⟩) (1 + (i + 1)) cap' (nmsTo nm ALL (i + 1))) := Lib.hid (by rw [SN.out]; exact o')
            have A2 := Lib.hid (VA.out.fk fk (fun a b ha hb => f_ne_i VA.out VI.out a b ha hb))
            have K2 := Lib.hid (VK.out.appI VI.out fk)
            clear o' fk VI VA VK bb OI OA K z0 z1 z2 z3
            go_wp2
            go_roundw
            case rel => exact ⟨i + 1, some ⟨g', 0, none⟩, cap', by omega, by go_num, rfl, I2.out, A2.out, K2.out⟩
            case measure => simp [intOf]; omega
          · obtain rfl : i = nA := by omega
            have i1 : decide ((i : Int) < (i : Int)) = false := by simp
            obtain ⟨NS, hNS⟩ : ∃ l, nmsTo nm ALL i = l := ⟨_, rfl⟩
            rw [hNS] at OI
            obtain ⟨M, hM⟩ : ∃ M, 1 + i = M := ⟨_, rfl⟩
            rw [hM] at OI ⊢
            have hM41 : M ≤ 41 := by omega
            clear hM
            clear hNS OA LA eA eB
            go_wp2
            go_loopw [16, 17, 18, 19, 20, 22, 24, 125] (fun _ _ _ _ _ _ _ jv w3 => ∃ j : Nat, j ≤ M ∧ jv = .int .i64 j ∧ Below wr.heap.size wr w3) (fun _ _ _ _ _ _ _ jv _ => M - (intOf jv).toNat)
            case atStart => exact ⟨0, Nat.zero_le _, rfl, Below.refl _ _⟩
            case round =>
              obtain ⟨j, hj, rfl, bw⟩ := hrel
              rename World => w3
              by_cases hlt : j < M
              · have i1 : decide ((j : Int) < (M : Int)) = true := by rw [decide_eq_true_eq]; omega
                have bj : (j : Int) < (M : Int) := by omega
                obtain ⟨g12, e12, hgx⟩ := OI.out.1.at (by omega)
                subst e12
                clear hgx
                have O3 := Lib.hid (OI.out.below bw)
                have K3 := Lib.hid (K.out.below bw)
                have BW := Lib.hid bw
                have c12c := O3.out.cell j hlt
                have xok := O3.out.2.2 j hlt
                obtain ⟨x, hx⟩ : ∃ x, iAt NS j = x := ⟨_, rfl⟩
                rw [hx] at c12c xok
                obtain ⟨x0, x1⟩ := id xok
                have XOK := Lib.hid xok
                clear bw hx xok
                have FD := Lib.hid (find_any { E with files := G } w3.heap.size A9 n9 c9 x w3 hn9.out (by unfold maxLen; omega) K3.out.g.reads (Nat.le_refl _) XOK.out)
                go_wp2_with (with_reducible refine load_ct rfl _ rfl d { E with files := G } A9 n9 c9 K3.out.d rfl ?_)
                refine FD.out.mono ?_
                rintro e w4 ⟨rfl, b4⟩
                have FW : Hid (fndF G x = wF (want5 x E.files put gone np) ∧ fndK G x = wK (want5 x E.files put gone np)) := Lib.hid (by
                  have e := GW.out x
                  rw [PL.out] at e
                  unfold fndF fndK wF wK
                  rw [e]
                  exact ⟨rfl, rfl⟩)
                obtain ⟨FG, hFG⟩ : ∃ f, fndF G x = f := ⟨_, rfl⟩
                obtain ⟨FKk, hFK⟩ : ∃ f, fndK G x = f := ⟨_, rfl⟩
                change Hid (fndF G x = _ ∧ fndK G x = _) at FW
                rw [hFG, hFK] at FW
                have e1 : fndF ({ E with files := G } : Ct).files x = FG := hFG
                have e2 : fndK ({ E with files := G } : Ct).files x = FKk := hFK
                rw [e1, e2]
                have H4 := Lib.hid b4
                clear b4 FD e1 e2 hFG hFK c12c
                go_wp2_with (with_reducible refine alloc_fl rfl rfl ?_)
                intro w5 l5 b5 s5
                obtain ⟨v17, hv17⟩ : ∃ v, v = w4.heap.size := ⟨_, rfl⟩
                rw [← hv17] at l5 ⊢
                have P5 := Lib.hid l5
                have H5 := Lib.hid (bstep H4.out b5)
                have hv17w : w3.heap.size ≤ v17 := by have := H4.out.size; omega
                clear l5 b5 s5 hv17 H4
                go_wp2_with (with_reducible refine store_fl rfl _ _ rfl v17 Fl.zero FG P5.out rfl rfl ?_)
                intro w6 l6 k6 s6
                have P6 := Lib.hid l6
                have H6 := Lib.hid (k6.below (fun k hk => by omega) H5.out H5.out.size)
                clear l6 k6 s6 P5 H5
                have K6 := Lib.hid (K3.out.below H6.out)
                have FC := Lib.hid (find_any E w.heap.size A n cap x w6 EL.out (by unfold maxLen; omega) K6.out.f K6.out.s.size XOK.out)
                go_wp2_with (with_reducible refine load_ct rfl _ rfl b E A n cap K6.out.c rfl ?_)
                refine FC.out.mono ?_
                rintro e w7 ⟨rfl, b7⟩
                have P7 := Lib.hid (P6.out.below b7)
                have H7 := Lib.hid (bstep H6.out b7)
                have Z0 : Hid (fndF E.files x = wF (want4 x E.files gone 0) ∧ fndK E.files x = wK (want4 x E.files gone 0)) := Lib.hid (by
                  unfold fndF fndK wF wK
                  rw [want4_zero]
                  exact ⟨rfl, rfl⟩)
                rw [Z0.out.1, Z0.out.2]
                clear b7 FC P6 H6 K6
                go_wp2_with (with_reducible refine alloc_fl rfl rfl ?_)
                intro w8 l8 b8 s8
                obtain ⟨v19, hv19⟩ : ∃ v, v = w7.heap.size := ⟨_, rfl⟩
                rw [← hv19] at l8 ⊢
                have Q8 := Lib.hid l8
                have P8 := Lib.hid (P7.out.below b8)
                have H8 := Lib.hid (bstep H7.out b8)
                have hv19w : w3.heap.size ≤ v19 := by have := H7.out.size; omega
                have hv79 : v17 < v19 := by have := P7.out.lt; omega
                clear l8 b8 s8 hv19 P7 H7
                go_wp2_with (with_reducible refine store_fl rfl _ _ rfl v19 Fl.zero (wF (want4 x E.files gone 0)) Q8.out rfl rfl ?_)
                intro w9 l9 k9 s9
                have Q9 := Lib.hid l9
                have P9 := Lib.hid (Arr.same P8.out (k9.block v17 P8.out.lt (by omega)))
                have H9 := Lib.hid (k9.below (fun k hk => by omega) H8.out H8.out.size)
                clear l9 k9 s9 Q8 P8 H8 Z0
                go_wp2
                go_loopw [20, 22, 143] (fun tv _ kv w4 => ∃ k : Nat, k ≤ ng ∧ kv = .int .i64 k ∧ tv = .bool (wK (want4 x E.files gone k)) ∧ FlV w4 v19 (wF (want4 x E.files gone k)) ∧ FlV w4 v17 FG ∧ Below w3.heap.size w3 w4) (fun _ _ kv _ => ng - (intOf kv).toNat)
                case atStart => exact ⟨0, Nat.zero_le _, rfl, rfl, Q9.out, P9.out, H9.out⟩
                case round =>
                  clear Q9 P9 H9
                  obtain ⟨k, hk, rfl, rfl, q4, p4, h4⟩ := hrel
                  rename World => w4
                  have Q4 := Lib.hid q4; have P4 := Lib.hid p4; have H4 := Lib.hid h4
                  clear q4 p4 h4
                  by_cases hlt4 : k < ng
                  · have k1 : decide ((k : Int) < (ng : Int)) = true := by rw [decide_eq_true_eq]; omega
                    have bk : (k : Int) < (ng : Int) := by omega
                    have G4 := Lib.hid (GF.out.below (bstep K3.out.s H4.out))
                    obtain ⟨gb, go_, eg, hgb, gc, gok⟩ := G4.out k (by rw [GL.out]; exact hlt4)
                    subst eg
                    have WS := Lib.hid (want4_succ x E.files gone k (by rw [GL.out]; exact hlt4))
                    obtain ⟨y, hy⟩ : ∃ y, iAt gone k = y := ⟨_, rfl⟩
                    rw [hy] at gc gok WS
                    obtain ⟨y0, y1⟩ := gok
                    clear hy G4
                    by_cases hyx : y = x
                    · have d1 : decide (y = x) = true := by rw [decide_eq_true_eq]; exact hyx
                      have d2 : (y == x) = true := by rw [beq_iff_eq]; exact hyx
                      rw [if_pos hyx] at WS
                      clear hyx
                      go_wp2_with (first | (with_reducible refine build_fl0 rfl rfl ?_) | (with_reducible refine store_fl rfl _ _ rfl v19 (wF (want4 x E.files gone k)) Fl.zero Q4.out rfl rfl ?_))
                      intro w5 l5 k5 s5
                      have Q5 : Hid (FlV w5 v19 (wF (want4 x E.files gone (k + 1)))) := Lib.hid (by rw [WS.out]; exact l5)
                      have P5 := Lib.hid (Arr.same P4.out (k5.block v17 P4.out.lt (by omega)))
                      have H5 := Lib.hid (k5.below (fun k hk => by omega) H4.out H4.out.size)
                      have T5 : Hid (false = wK (want4 x E.files gone (k + 1))) := Lib.hid (by rw [WS.out]; rfl)
                      clear l5 k5 s5
                      go_wp2
                      go_roundw
                      case rel => exact ⟨k + 1, by omega, by go_num, by rw [← T5.out], Q5.out, P5.out, H5.out⟩
                      case measure => simp [intOf]; omega
                    · have d1 : decide (y = x) = false := by rw [decide_eq_false_iff_not]; exact hyx
                      have d2 : (y == x) = false := by rw [beq_eq_false_iff_ne]; exact hyx
                      rw [if_neg hyx] at WS
                      clear hyx
                      obtain ⟨tb, htb⟩ : ∃ tb, wK (want4 x E.files gone k) = tb := ⟨_, rfl⟩
                      rw [htb]
                      have T5 : Hid (tb = wK (want4 x E.files gone (k + 1))) := Lib.hid (by rw [WS.out, htb])
                      have Q5 : Hid (FlV w4 v19 (wF (want4 x E.files gone (k + 1)))) := Lib.hid (by rw [WS.out]; exact Q4.out)
                      clear htb
                      go_wp2
                      go_roundw
                      case rel => exact ⟨k + 1, by omega, by go_num, by rw [← T5.out], Q5.out, P4.out, H4.out⟩
                      case measure => simp [intOf]; omega
                  · obtain rfl : k = ng := by omega
                    have k1 : decide ((k : Int) < (k : Int)) = false := by simp
                    have e5 : want4 x E.files gone k = want5 x E.files put gone 0 := by rw [← GL.out]; exact want4_all x E.files put gone
                    rw [e5] at Q4
                    rw [e5]
                    clear e5
                    go_wp2
                    go_loopw [20, 24, 154] (fun tv _ kv w5 => ∃ k : Nat, k ≤ np ∧ kv = .int .i64 k ∧ tv = .bool (wK (want5 x E.files put gone k)) ∧ FlV w5 v19 (wF (want5 x E.files put gone k)) ∧ FlV w5 v17 FG ∧ Below w3.heap.size w3 w5) (fun _ _ kv _ => np - (intOf kv).toNat)
                    case atStart => exact ⟨0, Nat.zero_le _, rfl, rfl, Q4.out, P4.out, H4.out⟩
                    case round =>
                      clear Q4 P4 H4
                      obtain ⟨k, hk, rfl, rfl, q5, p5, h5⟩ := hrel
                      rename World => w5
                      have Q5 := Lib.hid q5; have P5 := Lib.hid p5; have H5 := Lib.hid h5
                      clear q5 p5 h5
                      by_cases hlt5 : k < np
                      · have k1 : decide ((k : Int) < (np : Int)) = true := by rw [decide_eq_true_eq]; omega
                        have bk : (k : Int) < (np : Int) := by omega
                        have F5 := Lib.hid (PF.out.below (bstep K3.out.s H5.out))
                        obtain ⟨fb, fo, ef, hfb, z0, z1, z2, z3, fok⟩ := F5.out k (by rw [PL.out]; exact hlt5)
                        subst ef
                        have WS := Lib.hid (want5_succ x E.files put gone k (by rw [PL.out]; exact hlt5))
                        obtain ⟨f, hf⟩ : ∃ f, flAt put k = f := ⟨_, rfl⟩
                        rw [hf] at z0 z1 z2 z3 fok WS
                        obtain ⟨f0, f1⟩ := id fok.a
                        clear hf fok F5
                        by_cases hyx : f.name = x
                        · have d1 : decide (f.name = x) = true := by rw [decide_eq_true_eq]; exact hyx
                          have d2 : (f.name == x) = true := by rw [beq_iff_eq]; exact hyx
                          rw [if_pos hyx] at WS
                          clear hyx
                          go_upto_region 34 with fail
                          obtain ⟨V, hV⟩ : ∃ V, V = w5.alloc (.cells #[.int .i64 f.name, .int .i64 f.file, .int .i64 f.first, .int .i64 f.blocks] 33) := ⟨_, rfl⟩
                          rw [← hV]
                          obtain ⟨gv, hgv⟩ : ∃ g, g = w5.heap.size := ⟨_, rfl⟩
                          rw [← hgv]
                          have hbV : Below w5.heap.size w5 V := by rw [hV]; exact below_alloc _ _
                          have LF : Hid (FlV V gv f) := Lib.hid (by rw [hV, hgv]; exact FlV.new w5 f)
                          have QV := Lib.hid (Q5.out.below hbV)
                          have PV := Lib.hid (P5.out.below hbV)
                          have HV := Lib.hid (bstep H5.out hbV)
                          clear hV hgv hbV z0 z1 z2 z3 Q5 P5 H5
                          go_wp2_with (first | (with_reducible refine load_fl rfl _ rfl gv f LF.out rfl ?_) | (with_reducible refine store_fl rfl _ _ rfl v19 (wF (want5 x E.files put gone k)) f QV.out rfl rfl ?_))
                          intro w6 l6 k6 s6
                          have Q6 : Hid (FlV w6 v19 (wF (want5 x E.files put gone (k + 1)))) := Lib.hid (by rw [WS.out]; exact l6)
                          have P6 := Lib.hid (Arr.same PV.out (k6.block v17 PV.out.lt (by omega)))
                          have H6 := Lib.hid (k6.below (fun k hk => by omega) HV.out HV.out.size)
                          have T6 : Hid (true = wK (want5 x E.files put gone (k + 1))) := Lib.hid (by rw [WS.out]; rfl)
                          clear l6 k6 s6
                          go_wp2
                          go_roundw
                          case rel => exact ⟨k + 1, by omega, by go_num, by rw [← T6.out], Q6.out, P6.out, H6.out⟩
                          case measure => simp [intOf]; omega
                        · have d1 : decide (f.name = x) = false := by rw [decide_eq_false_iff_not]; exact hyx
                          have d2 : (f.name == x) = false := by rw [beq_eq_false_iff_ne]; exact hyx
                          rw [if_neg hyx] at WS
                          clear hyx
                          obtain ⟨tb, htb⟩ : ∃ tb, wK (want5 x E.files put gone k) = tb := ⟨_, rfl⟩
                          rw [htb]
                          have T6 : Hid (tb = wK (want5 x E.files put gone (k + 1))) := Lib.hid (by rw [WS.out, htb])
                          have Q6 : Hid (FlV w5 v19 (wF (want5 x E.files put gone (k + 1)))) := Lib.hid (by rw [WS.out]; exact Q5.out)
                          have bb := Lib.hid (below_alloc w5 (.cells #[.int .i64 f.name, .int .i64 f.file, .int .i64 f.first, .int .i64 f.blocks] 33))
                          clear htb
                          go_wp2
                          go_roundw
                          case rel => exact ⟨k + 1, by omega, by go_num, by rw [← T6.out], Q6.out.below bb.out, P5.out.below bb.out, bstep H5.out bb.out⟩
                          case measure => simp [intOf]; omega
                      · obtain rfl : k = np := by omega
                        have k1 : decide ((k : Int) < (k : Int)) = false := by simp
                        rw [← FW.out.1] at Q5
                        rw [← FW.out.2]
                        obtain ⟨p0, p1, p2, p3⟩ := P5.out.cells
                        obtain ⟨q0, q1, q2, q3⟩ := Q5.out.cells
                        have nq := neqFl_run FG FG
                        rw [decide_eq_true (rfl : FG = FG), Bool.not_true] at nq
                        have eg := fl_guard
                        have HZ := Lib.hid (bstep BW.out H5.out)
                        cases FKk
                        · go_wp2
                          go_roundw
                          case rel => exact ⟨j + 1, by omega, by go_num, HZ.out⟩
                          case measure => simp [intOf]; omega
                        · go_wp2
                          go_roundw
                          case rel => exact ⟨j + 1, by omega, by go_num, HZ.out⟩
                          case measure => simp [intOf]; omega
              · obtain rfl : j = M := by omega
                have i1 : decide ((j : Int) < (j : Int)) = false := by simp
                go_wp2_with fail
                refine (kruns_any w3).mono ?_
                rintro e wz ⟨rfl, bz⟩
                have BZ := Lib.hid (bstep K.out.s (bstep bw bz))
                clear bz
                go_wp2
                go_ret
                exact ⟨rfl, BZ.out⟩
end Go.Proofs.Ytoolmmjiemkpbaa
