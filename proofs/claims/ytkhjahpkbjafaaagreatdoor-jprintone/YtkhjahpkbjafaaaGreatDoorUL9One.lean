/- What the laws of JSON's reader share. -/
import Derived.Test.YtkhjahpkbjafaaaGreatDoorUJrThree
import Derived.Test.YtkhjahpkbjafaaaGreatDoorUJrLaid
import Derived.Test.YtkhjahpkbjafaaaGreatDoorURefVal4
import Derived.Test.YtkhjahpkbjafaaaGreatDoorUEscK
import Derived.Test.YtkhjahpkbjafaaaGreatDoorUMathEq
import Derived.Lib.LaidTab
import Derived.Test.YtkhjahpkbjafaaaGreatDoorUMathOne
/- What the printer's laws' list of variables gives. -/
/- Two texts of one value become one: JprintOne walked. -/
/- The statements of layer 8: what the document tells of a few texts. -/
/- The statements of layer 8: what the program reads is what the document reads. -/
namespace Go.Proofs.YtkhjahpkbjafaaaGreatDoor
open Go.RowKit

/-- what awake reads first -/
def tA : VT := .mk 6 0 ⟨#[]⟩ [] [⟨#[97]⟩, ⟨#[98]⟩] [.mk 5 0 ⟨#[]⟩ [] [] [], .mk 2 1 ⟨#[]⟩ [] [] []]
end Go.Proofs.YtkhjahpkbjafaaaGreatDoor
namespace Go.Proofs.YtkhjahpkbjafaaaGreatDoor
open Go.RowKit

mutual
theorem same_me : ∀ T : VT, sameT false T T = true
  | .mk k n s L K V => by
    have h1 := same_meL L
    have h2 := same_meL V
    simp [sameT, strB, VT.kd, VT.nm, VT.st, VT.ls, VT.ks, VT.vs, h1, h2]
theorem same_meL : ∀ L : List VT, sameL false L L = true
  | [] => rfl
  | t :: r => by have h1 := same_me t; have h2 := same_meL r; simp only [sameL, h1, h2, Bool.and_self]
end
end Go.Proofs.YtkhjahpkbjafaaaGreatDoor
namespace Go.Proofs.YtkhjahpkbjafaaaGreatDoor
open Go.RowKit

theorem fault_cells (w : World) (A : Obj) (a b c d : Int) :
    ((w.alloc A).alloc (.cells #[.int .i64 a, .int .i64 b, .int .i64 c, .int .i64 d] 30)).cell? ⟨w.heap.size + 1, 0, none⟩ = some (.int .i64 a) ∧
    ((w.alloc A).alloc (.cells #[.int .i64 a, .int .i64 b, .int .i64 c, .int .i64 d] 30)).cell? ⟨w.heap.size + 1, 1, none⟩ = some (.int .i64 b) ∧
    ((w.alloc A).alloc (.cells #[.int .i64 a, .int .i64 b, .int .i64 c, .int .i64 d] 30)).cell? ⟨w.heap.size + 1, 2, none⟩ = some (.int .i64 c) ∧
    ((w.alloc A).alloc (.cells #[.int .i64 a, .int .i64 b, .int .i64 c, .int .i64 d] 30)).cell? ⟨w.heap.size + 1, 3, none⟩ = some (.int .i64 d) := by
  rw [← World.size_alloc w A]
  refine ⟨?_, ?_, ?_, ?_⟩ <;> simp
theorem value_cells (w : World) (a b : Int) (c : ByteArray) (x y : Value) (B : Obj) :
    ((w.alloc (.cells #[.int .i64 a, .int .i64 b, .string c, x, y] 27)).alloc B).cell? ⟨w.heap.size, 0, none⟩ = some (.int .i64 a) ∧
    ((w.alloc (.cells #[.int .i64 a, .int .i64 b, .string c, x, y] 27)).alloc B).cell? ⟨w.heap.size, 1, none⟩ = some (.int .i64 b) ∧
    ((w.alloc (.cells #[.int .i64 a, .int .i64 b, .string c, x, y] 27)).alloc B).cell? ⟨w.heap.size, 2, none⟩ = some (.string c) ∧
    ((w.alloc (.cells #[.int .i64 a, .int .i64 b, .string c, x, y] 27)).alloc B).cell? ⟨w.heap.size, 3, none⟩ = some x ∧
    ((w.alloc (.cells #[.int .i64 a, .int .i64 b, .string c, x, y] 27)).alloc B).cell? ⟨w.heap.size, 4, none⟩ = some y := by
  refine ⟨?_, ?_, ?_, ?_, ?_⟩ <;> simp
end Go.Proofs.YtkhjahpkbjafaaaGreatDoor
namespace Go.Proofs.YtkhjahpkbjafaaaGreatDoor
open Go.RowKit

theorem lg1 : Tryz.prog.globalNamed "internal/strconv.uint64pow10" = some 1 := by kernel_rfl
theorem lg2 : (Tryz.prog.globals[1]?).map (·.type) = some 198 := by kernel_rfl
theorem lg3 : Tryz.prog.cellsOf 166 = 1 := by kernel_rfl
theorem lg4 : Tryz.prog.cellsOf 198 = 20 := by kernel_rfl
/-- the reader's and the printer's -/
def GlobA (W : World) : Prop := Globs W ∧ GlobT W
theorem GlobA.p {W : World} (h : GlobA W) : GlobP W := ⟨h.1.1, h.2⟩
theorem globa {W : World} (h : laidMetH Tryz.prog Rows.jprintSaysRow.laid W) : GlobA W := by
  have h1 := pick_laid h (fun x => x.1 == "internal/strconv.uint64pow10") ("internal/strconv.uint64pow10", Rows.laid_internal_strconv_uint64pow10) (by kernel_rfl) (by kernel_rfl)
  exact ⟨globs_gen h (by kernel_rfl) (by kernel_rfl) (by kernel_rfl) (by kernel_rfl), Lib.tabIs_of_head (rest := []) (zs := Lib.pow10Tab) lg1 lg2 Tryz.underlying198 Tryz.underlying166 lg3 lg4 h1⟩
end Go.Proofs.YtkhjahpkbjafaaaGreatDoor
namespace Go.Proofs.YtkhjahpkbjafaaaGreatDoor
open Go.RowKit

theorem texts_beq (a b : List UInt8) : ((mkS a).toList == (mkS b).toList) = decide (a = b) := by
  rw [ByteArray.toList_eq, ByteArray.toList_eq, mkS_list, mkS_list]
  by_cases h : a = b
  · rw [h, decide_eq_true rfl]; simp
  · rw [decide_eq_false h, beq_eq_false_iff_ne]; exact h
theorem zero_may : mayB 0 1 zeroT = true ∧ smB zeroT = false := ⟨by kernel_rfl, by kernel_rfl⟩
/-- what Parse ends in, whatever the text: a tree that may be, without a stamp -/
theorem jq_all {t : ByteArray} {R : Rd} {w w' : World} {e : Ending} (hR : ∀ T m q, R = .ok T m q → mayB 0 1 T = true ∧ smB T = false) (h : Jq t R w e w') : ∃ (T : VT) (o : Option Addr) (n c : Nat) (o' : Option Addr) (n' c' : Nat) (er x y z : Int), e = .returned (.tuple #[.agg #[.int .i64 T.kd, .int .i64 T.nm, .string T.st, .slice o n c, .slice o' n' c'], .agg #[.int .i64 er, .int .i64 x, .int .i64 y, .int .i64 z]]) ∧ Below w.heap.size w w' ∧ HV w' T (.slice o n c) (.slice o' n' c') ∧ mayB 0 1 T = true ∧ smB T = false := by
  cases R with
  | ok T k q => obtain ⟨o, n, c, o', n', c', rfl, hs, hb⟩ := h; exact ⟨T, _, _, _, _, _, _, _, _, _, _, rfl, hb, hs.hv, (hR T k q rfl).1, (hR T k q rfl).2⟩
  | bad er a => obtain ⟨rfl, hb⟩ := h; exact ⟨zeroT, _, _, _, _, _, _, _, _, _, _, rfl, hb, hv_zero w', zero_may.1, zero_may.2⟩
set_option maxRecDepth 100000 in
set_option maxHeartbeats 4000000 in
theorem Tryz.jprintOne_walk (t u : ByteArray) (_w0 : t.size ≤ maxLen) (_w1 : u.size ≤ maxLen) (w : World) (hga : GlobA w) :
    Calls Tryz.prog 10 #[.string t, .string u] w fun e w' => e = .returned (.bool true) ∧ Below w.heap.size w w' := by
  have HG := hid hga.p
  have CA := hid (awake9 w hga.p)
  have CP := hid (fun (t : ByteArray) X (ht : t.size ≤ 1000000) (hX : Below w.heap.size w X) => jparse_any t X ht (hga.1.1.on hX) (hga.1.2.on hX))
  clear hga
  unfold maxLen at _w0 _w1
  go_enter Tryz.func10, Tryz.ntmps10
  go_wp2_with fail
  go_at_call 25
  refine CA.out.mono ?_
  rintro e w4 ⟨rfl, hb4⟩
  have HB4 := hid hb4
  clear hb4 CA
  by_cases hl1 : 1500 < t.size
  · go_wp2_with fail
    go_ret
    exact ⟨rfl, HB4.out⟩
  by_cases hl2 : 1500 < u.size
  · go_wp2_with fail
    go_ret
    exact ⟨rfl, HB4.out⟩
  have C1 := hid (fun X (hX : Below w.heap.size w X) => CP.out t X (by omega) hX)
  have C2 := hid (fun X (hX : Below w.heap.size w X) => CP.out u X (by omega) hX)
  have M1 := hid (fun T m q (h : jrA t.data.toList = .ok T m q) => jr_may h)
  have M2 := hid (fun T m q (h : jrA u.data.toList = .ok T m q) => jr_may h)
  clear CP
  go_wp2_with fail
  go_at_call 15
  refine (C1.out _ HB4.out).mono ?_
  intro e w5 hq1
  obtain ⟨T, o1, n1, a1, o1', n1', a1', er1, p1, q1, r1, rfl, hb5, hv1, hm1, hs1⟩ := jq_all M1.out hq1
  have HB5 := hid (vonto HB4.out hb5)
  have HV1 := hid hv1
  have HM1 := hid hm1
  have HS1 := hid hs1
  clear hq1 hb5 hv1 hm1 hs1 C1 M1 HB4
  obtain ⟨k, hk⟩ : ∃ k, T.kd = k := ⟨_, rfl⟩
  obtain ⟨nm, hnm⟩ : ∃ nm, T.nm = nm := ⟨_, rfl⟩
  obtain ⟨st, hst⟩ : ∃ st, T.st = st := ⟨_, rfl⟩
  have HK := hid hk
  have HN := hid hnm
  have HST := hid hst
  rw [hk, hnm, hst]
  clear hk hnm hst
  go_wp2_with fail
  go_at_call 15
  obtain ⟨f0, -, -, -⟩ := fault_cells w5 (.cells #[.int .i64 k, .int .i64 nm, .string st, .slice o1 n1 a1, .slice o1' n1' a1'] 27) er1 p1 q1 r1
  obtain ⟨v0, v1, v2, v3, v4⟩ := value_cells w5 k nm st (.slice o1 n1 a1) (.slice o1' n1' a1') (.cells #[.int .i64 er1, .int .i64 p1, .int .i64 q1, .int .i64 r1] 30)
  have hk1 := valloc_bel (valloc_bel (Below.refl w5.heap.size w5) (.cells #[.int .i64 k, .int .i64 nm, .string st, .slice o1 n1 a1, .slice o1' n1' a1'] 27)) (.cells #[.int .i64 er1, .int .i64 p1, .int .i64 q1, .int .i64 r1] 30)
  refine (C2.out _ (vonto HB5.out hk1)).mono ?_
  intro e w6 hq2
  obtain ⟨U, o2, n2, a2, o2', n2', a2', er2, p2, q2, r2, rfl, hb6, hv2, hm2, hs2⟩ := jq_all M2.out hq2
  obtain ⟨k', hk'⟩ : ∃ k, U.kd = k := ⟨_, rfl⟩
  obtain ⟨nm', hnm'⟩ : ∃ nm, U.nm = nm := ⟨_, rfl⟩
  obtain ⟨st', hst'⟩ : ∃ st, U.st = st := ⟨_, rfl⟩
  have HK' := hid hk'
  have HN' := hid hnm'
  have HST' := hid hst'
  rw [hk', hnm', hst']
  clear hk' hnm' hst'
  have hk2 := valloc_bel (valloc_bel (Below.refl w6.heap.size w6) (.cells #[.int .i64 k', .int .i64 nm', .string st', .slice o2 n2 a2, .slice o2' n2' a2'] 27)) (.cells #[.int .i64 er2, .int .i64 p2, .int .i64 q2, .int .i64 r2] 30)
  replace f0 := keepCell hk2 (keepCell hb6 f0)
  replace v0 := keepCell hk2 (keepCell hb6 v0)
  replace v1 := keepCell hk2 (keepCell hb6 v1)
  replace v2 := keepCell hk2 (keepCell hb6 v2)
  replace v3 := keepCell hk2 (keepCell hb6 v3)
  replace v4 := keepCell hk2 (keepCell hb6 v4)
  obtain ⟨g0, -, -, -⟩ := fault_cells w6 (.cells #[.int .i64 k', .int .i64 nm', .string st', .slice o2 n2 a2, .slice o2' n2' a2'] 27) er2 p2 q2 r2
  obtain ⟨x0, x1, x2, x3, x4⟩ := value_cells w6 k' nm' st' (.slice o2 n2 a2) (.slice o2' n2' a2') (.cells #[.int .i64 er2, .int .i64 p2, .int .i64 q2, .int .i64 r2] 30)
  have HW1 := hid (((HV1.out.onto hk1).onto hb6).onto hk2)
  have HW2 := hid (hv2.onto hk2)
  have HM2 := hid hm2
  have HS2 := hid hs2
  have HB6 := hid (vonto (vonto (vonto HB5.out hk1) hb6) hk2)
  clear hq2 hb6 hk1 hk2 hv2 hm2 hs2 C2 M2 HV1 HB5
  go_upto_region 7 with fail
  generalize ((w6.alloc (.cells #[.int .i64 k', .int .i64 nm', .string st', .slice o2 n2 a2, .slice o2' n2' a2'] 27)).alloc (.cells #[.int .i64 er2, .int .i64 p2, .int .i64 q2, .int .i64 r2] 30)) = W6 at f0 v0 v1 v2 v3 v4 g0 x0 x1 x2 x3 x4 HW1 HW2 HB6 ⊢
  by_cases he1 : er1 = 0
  case neg =>
    have hbe : (er1 != 0) = true := by rw [bne_iff_ne]; exact he1
    go_wp2_with fail
    go_ret
    exact ⟨by first | rfl | exact ret_bool (by simp), HB6.out⟩
  subst he1
  by_cases he2 : er2 = 0
  case neg =>
    have hbe : (er2 != 0) = true := by rw [bne_iff_ne]; exact he2
    go_wp2_with fail
    go_ret
    exact ⟨by first | rfl | exact ret_bool (by simp), HB6.out⟩
  subst he2
  have S1 := hid (fun X (hX : Below W6.heap.size W6 X) => same_any (szT T) T U _ _ _ _ false X (Nat.le_refl _) (HW1.out.onto hX) (HW2.out.onto hX))
  have P1 := hid (fun X (hX : Below W6.heap.size W6 X) => compact_any T _ _ X (HG.out.on (vonto HB6.out hX)) (HW1.out.onto hX))
  have P2 := hid (fun X (hX : Below W6.heap.size W6 X) => compact_any U _ _ X (HG.out.on (vonto HB6.out hX)) (HW2.out.onto hX))
  have e1 : wrB false T = txs (tkV none T) := by unfold wrB; rw [if_pos HM1.out]; rfl
  have e2 : wrB false U = txs (tkV none U) := by unfold wrB; rw [if_pos HM2.out]; rfl
  have hq : ((mkS (wrB false T)).toList == (mkS (wrB false U)).toList) = sameT false T U := by
    rw [texts_beq, e1, e2]
    exact texts_same none T U HM1.out HM2.out HW1.out.wfT HW2.out.wfT HS1.out HS2.out
  obtain ⟨sm, hsm⟩ : ∃ sm, sameT false T U = sm := ⟨_, rfl⟩
  obtain ⟨b1, hb1⟩ : ∃ b1, mkS (wrB false T) = b1 := ⟨_, rfl⟩
  obtain ⟨b2, hb2⟩ : ∃ b2, mkS (wrB false U) = b2 := ⟨_, rfl⟩
  rw [hsm] at S1 hq
  rw [hb1] at P1 hq
  rw [hb2] at P2 hq
  simp only [vv] at S1 P1 P2
  rw [HK.out, HN.out, HST.out, HK'.out, HN'.out, HST'.out] at S1
  rw [HK.out, HN.out, HST.out] at P1
  rw [HK'.out, HN'.out, HST'.out] at P2
  clear e1 e2 hsm hb1 hb2
  go_wp2_with fail
  have hinh := abv_some W6
  have K1 := hid (fun X : Abv W6 => S1.out X.u X.h)
  have K2 := hid (fun X : Abv W6 => P1.out X.u X.h)
  have K3 := hid (fun X : Abv W6 => P2.out X.u X.h)
  have zv0 := above_cell v0
  have zv1 := above_cell v1
  have zv2 := above_cell v2
  have zv3 := above_cell v3
  have zv4 := above_cell v4
  have zx0 := above_cell x0
  have zx1 := above_cell x1
  have zx2 := above_cell x2
  have zx3 := above_cell x3
  have zx4 := above_cell x4
  clear v0 v1 v2 v3 v4 x0 x1 x2 x3 x4 f0 g0
  refine wp_region_above (by kernel_rfl) (by kernel_rfl) ?_
  repeat (go_big_quiet_step ((first
    | (go_at_call 20; with_reducible exact above_of (K1.out _))
    | (go_at_call 26; first | with_reducible exact above_of (K2.out _) | with_reducible exact above_of (K3.out _)))))
  refine wpQuiet_nil ?_
  intro _ hw'
  obtain ⟨X, hX⟩ := hw'
  subst hX
  go_wp2_with fail
  go_ret
  exact ⟨by first | rfl | exact ret_bool (by simp [hq]), vonto HB6.out X.h⟩
end Go.Proofs.YtkhjahpkbjafaaaGreatDoor
