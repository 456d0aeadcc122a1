/- Trees that may be: the mathematics of it. -/
import Derived.Test.YtiaepihdfbahaaaGreatDoorAVNode
import Derived.Test.YtiaepihdfbahaaaGreatDoorAVSameT
import Derived.Test.YtiaepihdfbahaaaGreatDoorATpA
import Derived.Test.YtiaepihdfbahaaaGreatDoorAMathDecAll
import Derived.Lib.IndexAny
import Derived.Shelf.Strings.IndexAnyAll
import Derived.Test.YtiaepihdfbahaaaGreatDoorProg
/- tprint.sayable on trees. -/
/- A number's bytes. -/
/- The library's contracts that the walks take, laid at this translation. -/
/- tprint.sayable on trees: maps, and the whole. -/
namespace Go.Proofs.YtiaepihdfbahaaaGreatDoor
open Go.RowKit

mutual
/-- a tree may be, whatever its size -/
def plainT : VT → Bool
  | .mk k n s L K V => nodeB (.mk k n s L K V) && plainL L && plainL V
def plainL : List VT → Bool
  | [] => true
  | t :: r => plainT t && plainL r
end
theorem plainT_eq (T : VT) : plainT T = (nodeB T && plainL T.ls && plainL T.vs) := by cases T; rw [plainT]; rfl
theorem plainL_get : ∀ (L : List VT), plainL L = true ↔ ∀ (i : Nat) (t : VT), L[i]? = some t → plainT t = true
  | [] => by simp [plainL]
  | a :: r => by
    simp only [plainL, Bool.and_eq_true]
    rw [plainL_get r]
    constructor
    · rintro ⟨h1, h2⟩ i t hi
      cases i with
      | zero => simp at hi; subst hi; exact h1
      | succ i => simp at hi; exact h2 i t hi
    · intro g
      exact ⟨g 0 a rfl, fun i t hi => g (i + 1) t (by simpa using hi)⟩
theorem hgL_get : ∀ (L : List VT) (m : Nat), hgL L ≤ m ↔ ∀ (i : Nat) (t : VT), L[i]? = some t → hgT t ≤ m
  | [], m => by simp [hgL]
  | a :: r, m => by
    simp only [hgL, Nat.max_le]
    rw [hgL_get r m]
    constructor
    · rintro ⟨h1, h2⟩ i t hi
      cases i with
      | zero => simp at hi; subst hi; exact h1
      | succ i => simp at hi; exact h2 i t hi
    · intro g
      exact ⟨g 0 a rfl, fun i t hi => g (i + 1) t (by simpa using hi)⟩
/-- a tree may be, with so many nodes ahead of it, so deep below the top -/
def mayB (c d : Int) (T : VT) : Bool := decide (c + szT T ≤ 4096 ∧ d + hgT T ≤ 33) && plainT T
theorem good_node {c d : Int} {T : VT} (h : mayB c d T = true) : c + 1 ≤ 4096 ∧ d ≤ 32 ∧ nodeB T = true := by
  unfold mayB at h
  simp only [Bool.and_eq_true, decide_eq_true_eq] at h
  have h1 := szT_pos T; have h2 := hgT_pos T
  have h3 := h.2
  rw [plainT_eq] at h3
  simp only [Bool.and_eq_true] at h3
  exact ⟨by omega, by omega, h3.1.1⟩
theorem hg_ls (T : VT) : hgL T.ls + 1 ≤ hgT T ∧ hgL T.vs + 1 ≤ hgT T := by cases T; simp only [hgT, VT.ls, VT.vs]; omega
theorem sz_both (T : VT) : szT T = 1 + szL T.ls + szL T.vs := by cases T; simp only [szT, VT.ls, VT.vs]
theorem hg_both (T : VT) : hgT T = 1 + max (hgL T.ls) (hgL T.vs) := by cases T; simp only [hgT, VT.ls, VT.vs]
theorem good_ls {c d : Int} {T : VT} (h : mayB c d T = true) (i : Nat) (t : VT) (ht : T.ls[i]? = some t) : mayB (c + 1 + szL (T.ls.take i)) (d + 1) t = true := by
  unfold mayB at *
  simp only [Bool.and_eq_true, decide_eq_true_eq] at *
  have h3 := h.2
  rw [plainT_eq] at h3
  simp only [Bool.and_eq_true] at h3
  have h4 := szL_take_succ T.ls i t ht
  have h5 := szL_take_le T.ls (i + 1)
  have h6 := (hgL_get T.ls _).1 (Nat.le_refl _) i t ht
  have h7 := hg_ls T
  have h8 := sz_both T
  exact ⟨⟨by omega, by omega⟩, (plainL_get _).1 h3.1.2 i t ht⟩
theorem good_vs {c d : Int} {T : VT} (h : mayB c d T = true) (i : Nat) (t : VT) (ht : T.vs[i]? = some t) : mayB (c + 1 + szL T.ls + szL (T.vs.take i)) (d + 1) t = true := by
  unfold mayB at *
  simp only [Bool.and_eq_true, decide_eq_true_eq] at *
  have h3 := h.2
  rw [plainT_eq] at h3
  simp only [Bool.and_eq_true] at h3
  have h4 := szL_take_succ T.vs i t ht
  have h5 := szL_take_le T.vs (i + 1)
  have h6 := (hgL_get T.vs _).1 (Nat.le_refl _) i t ht
  have h7 := hg_ls T
  have h8 := sz_both T
  exact ⟨⟨by omega, by omega⟩, (plainL_get _).1 h3.2 i t ht⟩
theorem good_sz {c d : Int} {T : VT} (h : mayB c d T = true) : c + szT T ≤ 4096 ∧ d + hgT T ≤ 33 ∧ plainT T = true := by
  unfold mayB at h
  simp only [Bool.and_eq_true, decide_eq_true_eq] at h
  exact ⟨h.1.1, h.1.2, h.2⟩
theorem good_all {c d : Int} {T : VT} (hd : d ≤ 32) (hc : c + 1 + szL T.ls + szL T.vs ≤ 4096) (hn : nodeB T = true) (h1 : ∀ (i : Nat) (t : VT), T.ls[i]? = some t → d + 1 + hgT t ≤ 33 ∧ plainT t = true) (h2 : ∀ (i : Nat) (t : VT), T.vs[i]? = some t → d + 1 + hgT t ≤ 33 ∧ plainT t = true) : mayB c d T = true := by
  unfold mayB
  have h8 := sz_both T
  have h9 := hg_both T
  have g1 := (hgL_get T.ls (32 - d).toNat).2 (fun i t h => by have := (h1 i t h).1; omega)
  have g2 := (hgL_get T.vs (32 - d).toNat).2 (fun i t h => by have := (h2 i t h).1; omega)
  rw [plainT_eq, hn, (plainL_get _).2 (fun i t h => (h1 i t h).2), (plainL_get _).2 (fun i t h => (h2 i t h).2), decide_eq_true (by constructor <;> omega)]
  rfl
end Go.Proofs.YtiaepihdfbahaaaGreatDoor
namespace Go.Proofs.YtiaepihdfbahaaaGreatDoor
open Go.RowKit

theorem tpwp_gen {P : Program} {c : Code} {Q : Exit → Act → World → Prop} {a : Act} {w : World} (h : ∀ W, W = w → Code.wp P c Q a W) : Code.wp P c Q a w := h w rfl
theorem tpbox (w : World) (a b c d e : Value) : (w.alloc (.cells #[a, b, c, d, e] 27)).cell? ⟨w.heap.size, 0, none⟩ = some a ∧ (w.alloc (.cells #[a, b, c, d, e] 27)).cell? ⟨w.heap.size, 1, none⟩ = some b ∧ (w.alloc (.cells #[a, b, c, d, e] 27)).cell? ⟨w.heap.size, 2, none⟩ = some c ∧ (w.alloc (.cells #[a, b, c, d, e] 27)).cell? ⟨w.heap.size, 3, none⟩ = some d ∧ (w.alloc (.cells #[a, b, c, d, e] 27)).cell? ⟨w.heap.size, 4, none⟩ = some e := by
  have h := new_cells w [a, b, c, d, e] 27
  have a0 := h 0 _ rfl
  have a1 := h 1 _ rfl
  have a2 := h 2 _ rfl
  have a3 := h 3 _ rfl
  have a4 := h 4 _ rfl
  rw [add_at] at a0 a1 a2 a3 a4
  exact ⟨a0, a1, a2, a3, a4⟩
/-- a number's text that is no whole number's -/
def fltB (l : List UInt8) : Bool := l.any fun b => decide (b.toNat = 46 ∨ b.toNat = 101 ∨ b.toNat = 69)
mutual
/-- has TOML a text for it? -/
def syT : VT → Bool
  | .mk k _ s L _ V => if k = 0 then false else if k = 3 then fltB s.data.toList else if k = 7 then (stB s.data.toList || infB (unS s.data.toList)) else if k = 5 then syL L else if k = 6 then syL V else true
def syL : List VT → Bool
  | [] => true
  | t :: r => syT t && syL r
end
theorem syL_take (L : List VT) (j : Nat) (t : VT) (h : L[j]? = some t) : syL (L.take (j + 1)) = (syL (L.take j) && syT t) := by
  induction L generalizing j with
  | nil => simp at h
  | cons a r ih =>
    cases j with
    | zero => simp at h; subst h; simp [syL]
    | succ j =>
      simp only [List.getElem?_cons_succ] at h
      simp only [List.take_succ_cons, syL]
      rw [ih j h, Bool.and_assoc]
theorem syL_no (L : List VT) (j : Nat) (t : VT) (h : L[j]? = some t) (ht : syT t = false) : syL L = false := by
  induction L generalizing j with
  | nil => simp at h
  | cons a r ih =>
    cases j with
    | zero => simp at h; subst h; simp [syL, ht]
    | succ j =>
      simp only [List.getElem?_cons_succ] at h
      simp only [syL]
      rw [ih j h, Bool.and_false]
/-- what sayable answers at trees of so many nodes -/
def Say (N : Nat) : Prop := ∀ (T : VT) (x y : Value) (w : World), szT T ≤ N → HV w T x y → plainT T = true → GlobN w →
    Calls Tryz.prog 19 #[vv T x y] w fun e w' => e = .returned (.bool (syT T)) ∧ Below w.heap.size w w'
set_option maxRecDepth 100000 in
set_option maxHeartbeats 2000000 in
theorem tplist_of (N : Nat) (ih : Say N) (L : List VT) (x : Value) (a : Addr) (f g : Nat → Value) (w : World) (hg : GlobN w) (hL : SlOf x a L.length) (cL : ∀ i t, L[i]? = some t → Node w (a.add (i * 5)) t (f i) (g i)) (rL : ∀ i t, L[i]? = some t → HV w t (f i) (g i)) (hN : szL L ≤ N) (hp : plainL L = true) :
    Calls Tryz.prog 38 #[x] w fun e w' => e = .returned (.bool (syL L)) ∧ Below w.heap.size w w' := by
  obtain ⟨oL, capL, rfl, hL1, hL2, hL3⟩ := hL
  unfold maxLen at hL2
  have HG := hid hg
  have HP := hid ((plainL_get L).1 hp)
  obtain ⟨R, hR⟩ : ∃ R, syL L = R := ⟨_, rfl⟩
  have HR := hid hR
  rw [hR]
  clear hR hg hp
  go_enter Tryz.func38, Tryz.ntmps38
  go_wp2_with fail
  go_loopw [7] (fun i wr => ∃ j : Nat, j ≤ L.length ∧ i = .int .i64 j ∧ Hid (Below w.heap.size w wr) ∧ Hid (syL (L.take j) = true)) (fun i _ => L.length - (intOf i).toNat)
  case atStart => exact ⟨0, Nat.zero_le _, rfl, Below.refl _ _, rfl⟩
  case round =>
    obtain ⟨j, hj, rfl, HB, HA⟩ := hrel
    by_cases hlt : j < L.length
    · obtain ⟨t, ht⟩ : ∃ t, L[j]? = some t := ⟨L[j], List.getElem?_eq_getElem hlt⟩
      obtain rfl := hL3 (by omega)
      obtain ⟨d0, d1, d2, d3, d4⟩ := (cL j t ht).onto HB.out
      obtain ⟨o1, n1, c1, o2, n2, c2, hp, hq⟩ := hv_slices (rL j t ht)
      have HRr := hid ((rL j t ht).onto HB.out)
      rw [hp, hq] at HRr
      rw [hp] at d3
      rw [hq] at d4
      have hszs := szL_take_succ L j t ht
      have hsl1 := szL_take_le L (j + 1)
      have HT := hid (syL_take L j t ht)
      have HX := hid (fun h => syL_no L j t ht h)
      have HSTEP := hid (fun (X : World) (hX : Below wr.heap.size wr X) => ih t _ _ X (by omega) (HRr.out.onto hX) (HP.out j t ht) (HG.out.on (vonto HB.out hX)))
      simp only [vv] at HSTEP
      generalize syT t = q at *
      clear hp hq
      go_upto_region 4 with fail
      refine tpwp_gen ?_
      intro W hW
      obtain ⟨g0, g1, g2, g3, g4⟩ := tpbox wr (.int .i64 t.kd) (.int .i64 t.nm) (.string t.st) (.slice o1 n1 c1) (.slice o2 n2 c2)
      have hbW : Below wr.heap.size wr W := by rw [hW]; exact valloc_bel (Below.refl _ _) _
      rw [← hW] at g0 g1 g2 g3 g4
      have HBW := hid (vonto HB.out hbW)
      have C1 := hid (HSTEP.out W hbW)
      clear hW hbW HSTEP d0 d1 d2 d3 d4
      cases q with
      | true =>
        go_wp2_with fail
        go_at_call 19
        refine C1.out.mono ?_
        rintro e w1 ⟨rfl, hb1⟩
        have HB1 := hid (vonto HBW.out hb1)
        clear hb1 C1
        go_wp2_with fail
        go_roundw
        case rel => exact ⟨j + 1, hlt, val_int (by omega), HB1.out, by rw [HT.out, HA.out]; rfl⟩
        case measure => simp [intOf]; omega
      | false =>
        have HFa : Hid (R = false) := hid (by rw [← HR.out, HX.out rfl])
        go_wp2_with fail
        go_at_call 19
        refine C1.out.mono ?_
        rintro e w1 ⟨rfl, hb1⟩
        have HB1 := hid (vonto HBW.out hb1)
        clear hb1 C1
        go_wp2_with fail
        go_ret
        exact ⟨by rw [HFa.out]; rfl, HB1.out⟩
    · obtain rfl : j = L.length := by omega
      have HTr : Hid (R = true) := hid (by rw [← HR.out]; have := HA.out; rw [List.take_length] at this; exact this)
      go_wp2_with fail
      go_ret
      exact ⟨by rw [HTr.out]; rfl, HB.out⟩
end Go.Proofs.YtiaepihdfbahaaaGreatDoor
namespace Go.Proofs.YtiaepihdfbahaaaGreatDoor
open Go

theorem na_dig {l : List UInt8} (h : l.all isD = true) : ∀ b ∈ l, b.toNat < 128 := fun b hb => by
  have := isD_bd (List.all_eq_true.1 h b hb); omega
theorem na_run {l : List UInt8} (h : runN l = l.length) : ∀ b ∈ l, b.toNat < 128 := by
  have e : l.takeWhile isD = l := by
    have := runN_take l
    rw [h, List.take_length] at this; exact this.symm
  have := tw_all l
  rw [e] at this
  exact na_dig this
theorem na_getD {l : List UInt8} (h : ¬ (l.getD 0 0).toNat = 0) : ∃ a t, l = a :: t ∧ l.getD 0 0 = a := by
  cases l with
  | nil => exact absurd rfl h
  | cons a t => exact ⟨a, t, rfl, rfl⟩
theorem num_asc {l : List UInt8} (h : numB l = true) : ∀ b ∈ l, b.toNat < 128 := by
  unfold numB pOk at h
  simp only [Bool.and_eq_true] at h
  obtain ⟨⟨⟨⟨-, -⟩, hE⟩, -⟩, -⟩ := h
  have hS : ∀ b ∈ pS l, b.toNat < 128 := by
    unfold pEok at hE
    rw [Bool.or_eq_true] at hE
    rcases hE with hE | hE
    · rw [decide_eq_true_iff] at hE; rw [hE]; intro b hb; cases hb
    · simp only [Bool.and_eq_true, decide_eq_true_eq] at hE
      obtain ⟨⟨h1, -⟩, h3⟩ := hE
      unfold pE at h1
      rw [Bool.or_eq_true, decide_eq_true_iff, decide_eq_true_iff] at h1
      obtain ⟨a, t, e, ha⟩ := na_getD (l := pS l) (by omega)
      rw [ha] at h1
      have hP : pP l = t := by unfold pP; rw [e]; rfl
      rw [hP] at h3
      have hD := na_run h3
      intro b hb
      rw [e] at hb
      rcases List.mem_cons.1 hb with rfl | hb
      · omega
      · unfold pD at hD
        by_cases hs : pSg t = true
        · rw [if_pos hs] at hD
          unfold pSg at hs
          rw [Bool.or_eq_true, decide_eq_true_iff, decide_eq_true_iff] at hs
          obtain ⟨c, u, e2, hc⟩ := na_getD (l := t) (by omega)
          rw [hc] at hs
          rw [e2] at hb hD
          rcases List.mem_cons.1 hb with rfl | hb
          · omega
          · exact hD b hb
        · rw [if_neg hs] at hD; exact hD b hb
  have hR : ∀ b ∈ pR l, b.toNat < 128 := by
    unfold pS at hS
    by_cases hd : pDot l = true
    · rw [if_pos hd] at hS
      unfold pDot at hd
      rw [decide_eq_true_iff] at hd
      obtain ⟨a, t, e, ha⟩ := na_getD (l := pR l) (by omega)
      rw [ha] at hd
      rw [e] at hS ⊢
      intro b hb
      rcases List.mem_cons.1 hb with rfl | hb
      · omega
      · rw [← List.takeWhile_append_dropWhile (p := isD) (l := t)] at hb
        rcases List.mem_append.1 hb with hb | hb
        · exact na_dig (tw_all t) b hb
        · exact hS b hb
    · rw [if_neg hd] at hS; exact hS
  have hU : ∀ b ∈ pU l, b.toNat < 128 := by
    intro b hb
    rw [← List.takeWhile_append_dropWhile (p := isD) (l := pU l)] at hb
    rcases List.mem_append.1 hb with hb | hb
    · exact na_dig (tw_all _) b hb
    · exact hR b hb
  unfold pU at hU
  by_cases hn : pNeg l = true
  · rw [if_pos hn] at hU
    unfold pNeg at hn
    rw [decide_eq_true_iff] at hn
    obtain ⟨a, t, e, ha⟩ := na_getD (l := l) (by omega)
    rw [ha] at hn
    rw [e] at hU ⊢
    intro b hb
    rcases List.mem_cons.1 hb with rfl | hb
    · omega
    · exact hU b hb
  · rw [if_neg hn] at hU; exact hU
end Go.Proofs.YtiaepihdfbahaaaGreatDoor
namespace Go.Proofs
open Go.Shelf
def Tryz.lays150_ren : Go.Shelf.Ren := ⟨fun | 150 => 35 | 153 => 57 | 152 => 85 | 226 => 86 | 227 => 87 | 228 => 88 | 137 => 95 | 119 => 118 | 224 => 119 | 225 => 120 | 217 => 124 | 266 => 144 | n => n, fun | 9 => 9 | 4 => 4 | 3 => 3 | 5 => 5 | 21 => 21 | 117 => 99 | 116 => 98 | 0 => 0 | 46 => 87 | 124 => 123 | n => n, fun | n => n⟩
theorem Tryz.lays150 : Go.Proofs.Lays.n150 Tryz.prog Tryz.lays150_ren := {
  mixed := by kernel_rfl
  f119 := Tryz.func118.trans (congrArg some (by kernel_rfl))
  f137 := Tryz.func95.trans (congrArg some (by kernel_rfl))
  f150 := Tryz.func35.trans (congrArg some (by kernel_rfl))
  f152 := Tryz.func85.trans (congrArg some (by kernel_rfl))
  f153 := Tryz.func57.trans (congrArg some (by kernel_rfl))
  f217 := Tryz.func124.trans (congrArg some (by kernel_rfl))
  f224 := Tryz.func119.trans (congrArg some (by kernel_rfl))
  f225 := Tryz.func120.trans (congrArg some (by kernel_rfl))
  f226 := Tryz.func86.trans (congrArg some (by kernel_rfl))
  f227 := Tryz.func87.trans (congrArg some (by kernel_rfl))
  f228 := Tryz.func88.trans (congrArg some (by kernel_rfl))
  f266 := Tryz.func144.trans (congrArg some (by kernel_rfl))
  t0 := Tryz.underlying0
  a0 := Tryz.isAgg0
  z0 := Tryz.sizeOf0
  v0 := Tryz.zeroValue0
  t3 := Tryz.underlying3
  a3 := Tryz.isAgg3
  z3 := Tryz.sizeOf3
  v3 := Tryz.zeroValue3
  t4 := Tryz.underlying4
  a4 := Tryz.isAgg4
  z4 := Tryz.sizeOf4
  v4 := Tryz.zeroValue4
  t5 := Tryz.underlying5
  a5 := Tryz.isAgg5
  z5 := Tryz.sizeOf5
  v5 := Tryz.zeroValue5
  t9 := Tryz.underlying9
  a9 := Tryz.isAgg9
  z9 := Tryz.sizeOf9
  v9 := Tryz.zeroValue9
  t21 := Tryz.underlying21
  a21 := Tryz.isAgg21
  z21 := Tryz.sizeOf21
  v21 := Tryz.zeroValue21
  t46 := Tryz.underlying87
  a46 := Tryz.isAgg87
  z46 := Tryz.sizeOf87
  v46 := Tryz.zeroValue87
  t116 := Tryz.underlying98
  a116 := Tryz.isAgg98
  z116 := Tryz.sizeOf98
  t117 := Tryz.underlying99
  a117 := Tryz.isAgg99
  z117 := Tryz.sizeOf99
  v117 := Tryz.zeroValue99
  t124 := Tryz.underlying123
  a124 := Tryz.isAgg123
  z124 := Tryz.sizeOf123
  v124 := Tryz.zeroValue123 }
open Go.RowKit Go.Lib in
theorem Tryz.strings_ContainsAny_laid (s chars : ByteArray) (w : World) (hs : s.size < 4294967281) (hcs : chars.size < 4294967281) (has : ∀ (j : Nat) b, s.data.toList[j]? = some b → b.toNat < 128) (hac : ∀ (j : Nat) b, chars.data.toList[j]? = some b → b.toNat < 128) :
    Calls Tryz.prog 35 #[.string s, .string chars] w fun e w' => e = .returned (.bool (Lib.containsAny s.data.toList chars.data.toList)) ∧ Below w.heap.size w w' := Any.strings_ContainsAny_laid Tryz.lays150 (by kernel_rfl) s chars w hs hcs has hac
end Go.Proofs
namespace Go.Proofs.YtiaepihdfbahaaaGreatDoor
open Go.RowKit

theorem tpbox6 (w : World) (k a b c d e : Value) : (w.alloc (.cells #[k, a, b, c, d, e] 30)).cell? ⟨w.heap.size, 0, none⟩ = some k ∧ (w.alloc (.cells #[k, a, b, c, d, e] 30)).cell? ⟨w.heap.size, 1, none⟩ = some a ∧ (w.alloc (.cells #[k, a, b, c, d, e] 30)).cell? ⟨w.heap.size, 2, none⟩ = some b ∧ (w.alloc (.cells #[k, a, b, c, d, e] 30)).cell? ⟨w.heap.size, 3, none⟩ = some c ∧ (w.alloc (.cells #[k, a, b, c, d, e] 30)).cell? ⟨w.heap.size, 4, none⟩ = some d ∧ (w.alloc (.cells #[k, a, b, c, d, e] 30)).cell? ⟨w.heap.size, 5, none⟩ = some e := by
  have h := new_cells w [k, a, b, c, d, e] 30
  have a0 := h 0 _ rfl
  have a1 := h 1 _ rfl
  have a2 := h 2 _ rfl
  have a3 := h 3 _ rfl
  have a4 := h 4 _ rfl
  have a5 := h 5 _ rfl
  rw [add_at] at a0 a1 a2 a3 a4 a5
  exact ⟨a0, a1, a2, a3, a4, a5⟩
set_option maxRecDepth 100000 in
set_option maxHeartbeats 2000000 in
theorem tppairs_of (N : Nat) (ih : Say N) (L : List VT) (K : List ByteArray) (x : Value) (a : Addr) (f g : Nat → Value) (w : World) (hg : GlobN w) (hL : SlOf x a L.length) (hK : K.length = L.length) (cK : ∀ i u, K[i]? = some u → w.cell? (a.add (i * 6)) = some (.string u) ∧ u.size ≤ maxLen) (cL : ∀ i t, L[i]? = some t → Node w (nx (a.add (i * 6))) t (f i) (g i)) (rL : ∀ i t, L[i]? = some t → HV w t (f i) (g i)) (hN : szL L ≤ N) (hp : plainL L = true) :
    Calls Tryz.prog 39 #[x] w fun e w' => e = .returned (.bool (syL L)) ∧ Below w.heap.size w w' := by
  obtain ⟨oL, capL, rfl, hL1, hL2, hL3⟩ := hL
  unfold maxLen at hL2
  have HG := hid hg
  have HP := hid ((plainL_get L).1 hp)
  obtain ⟨R, hR⟩ : ∃ R, syL L = R := ⟨_, rfl⟩
  have HR := hid hR
  rw [hR]
  clear hR hg hp
  go_enter Tryz.func39, Tryz.ntmps39
  go_wp2_with fail
  go_loopw [7] (fun i wr => ∃ j : Nat, j ≤ L.length ∧ i = .int .i64 j ∧ Hid (Below w.heap.size w wr) ∧ Hid (syL (L.take j) = true)) (fun i _ => L.length - (intOf i).toNat)
  case atStart => exact ⟨0, Nat.zero_le _, rfl, Below.refl _ _, rfl⟩
  case round =>
    obtain ⟨j, hj, rfl, HB, HA⟩ := hrel
    by_cases hlt : j < L.length
    · obtain ⟨t, ht⟩ : ∃ t, L[j]? = some t := ⟨L[j], List.getElem?_eq_getElem hlt⟩
      obtain rfl := hL3 (by omega)
      obtain ⟨c, hc⟩ : ∃ c, K[j]? = some c := ⟨K[j], List.getElem?_eq_getElem (by omega)⟩
      have dk := keepCell HB.out (cK j c hc).1
      have hnode := (cL j t ht).onto HB.out
      simp only [Node, nx] at hnode
      obtain ⟨d0, d1, d2, d3, d4⟩ := hnode
      obtain ⟨o1, n1, c1, o2, n2, c2, hp, hq⟩ := hv_slices (rL j t ht)
      have HRr := hid ((rL j t ht).onto HB.out)
      rw [hp, hq] at HRr
      rw [hp] at d3
      rw [hq] at d4
      have hszs := szL_take_succ L j t ht
      have hsl1 := szL_take_le L (j + 1)
      have HT := hid (syL_take L j t ht)
      have HX := hid (fun h => syL_no L j t ht h)
      have HSTEP := hid (fun (X : World) (hX : Below wr.heap.size wr X) => ih t _ _ X (by omega) (HRr.out.onto hX) (HP.out j t ht) (HG.out.on (vonto HB.out hX)))
      simp only [vv] at HSTEP
      generalize syT t = q at *
      clear hp hq
      go_upto_region 4 with fail
      refine tpwp_gen ?_
      intro W hW
      obtain ⟨gk, g0, g1, g2, g3, g4⟩ := tpbox6 wr (.string c) (.int .i64 t.kd) (.int .i64 t.nm) (.string t.st) (.slice o1 n1 c1) (.slice o2 n2 c2)
      have hbW : Below wr.heap.size wr W := by rw [hW]; exact valloc_bel (Below.refl _ _) _
      rw [← hW] at gk g0 g1 g2 g3 g4
      have HBW := hid (vonto HB.out hbW)
      have C1 := hid (HSTEP.out W hbW)
      clear hW hbW HSTEP d0 d1 d2 d3 d4 dk
      cases q with
      | true =>
        go_wp2_with fail
        go_at_call 19
        refine C1.out.mono ?_
        rintro e w1 ⟨rfl, hb1⟩
        have HB1 := hid (vonto HBW.out hb1)
        clear hb1 C1
        go_wp2_with fail
        go_roundw
        case rel => exact ⟨j + 1, hlt, val_int (by omega), HB1.out, by rw [HT.out, HA.out]; rfl⟩
        case measure => simp [intOf]; omega
      | false =>
        have HFa : Hid (R = false) := hid (by rw [← HR.out, HX.out rfl])
        go_wp2_with fail
        go_at_call 19
        refine C1.out.mono ?_
        rintro e w1 ⟨rfl, hb1⟩
        have HB1 := hid (vonto HBW.out hb1)
        clear hb1 C1
        go_wp2_with fail
        go_ret
        exact ⟨by rw [HFa.out]; rfl, HB1.out⟩
    · obtain rfl : j = L.length := by omega
      have HTr : Hid (R = true) := hid (by rw [← HR.out]; have := HA.out; rw [List.take_length] at this; exact this)
      go_wp2_with fail
      go_ret
      exact ⟨by rw [HTr.out]; rfl, HB.out⟩
theorem flt_is (l : List UInt8) : Lib.containsAny l [46, 101, 69] = fltB l := by
  unfold Lib.containsAny fltB
  induction l with
  | nil => rfl
  | cons b l ih =>
    have hge := Lib.indexAny_ge [46, 101, 69] l
    rw [List.any_cons, ← ih, Lib.indexAny]
    have hc : ([46, 101, 69] : List UInt8).contains b = decide (b.toNat = 46 ∨ b.toNat = 101 ∨ b.toNat = 69) := by
      rw [Bool.eq_iff_iff, decide_eq_true_iff]
      simp only [List.contains_iff_mem, List.mem_cons, List.not_mem_nil, or_false]
      constructor
      · rintro (h | h | h) <;> simp [h]
      · rintro (h | h | h)
        · exact Or.inl (UInt8.toNat_inj.1 h)
        · exact Or.inr (Or.inl (UInt8.toNat_inj.1 h))
        · exact Or.inr (Or.inr (UInt8.toNat_inj.1 h))
    rw [hc]
    cases decide (b.toNat = 46 ∨ b.toNat = 101 ∨ b.toNat = 69) with
    | true => simp
    | false =>
      simp only [Bool.false_eq_true, if_false, Bool.false_or]
      split
      · rename_i h; rw [beq_iff_eq.1 h]
      · rename_i h
        have : Lib.indexAny l [46, 101, 69] ≠ -1 := fun e => h (beq_iff_eq.2 e)
        rw [decide_eq_decide]; omega
theorem node_num {n : Int} {s : ByteArray} {L : List VT} {K : List ByteArray} {V : List VT} (h : nodeB (.mk 3 n s L K V) = true) : numB s.data.toList = true := by
  change nodeC 3 n (n == 0) s.toList.isEmpty ((L.length : Int) == 0) ((V.length : Int) == 0) (numB s.data.toList && !intB s.data.toList) (teI s == 0) (stampB s) (keysB K) = true at h
  unfold nodeC at h
  rw [if_neg (by decide), if_neg (by decide), if_neg (by decide), if_pos rfl] at h
  simp only [Bool.and_eq_true] at h
  exact h.1.1.2.1
theorem node_stamp {n : Int} {s : ByteArray} {L : List VT} {K : List ByteArray} {V : List VT} (h : nodeB (.mk 7 n s L K V) = true) : s.size ≤ 64 := by
  change nodeC 7 n (n == 0) s.toList.isEmpty ((L.length : Int) == 0) ((V.length : Int) == 0) (numB s.data.toList && !intB s.data.toList) (teI s == 0) (stampB s) (keysB K) = true at h
  unfold nodeC at h
  rw [if_neg (by decide), if_neg (by decide), if_neg (by decide), if_neg (by decide), if_neg (by decide), if_pos rfl] at h
  simp only [Bool.and_eq_true] at h
  have := h.1.1.2
  unfold stampB at this
  simp only [Bool.and_eq_true, decide_eq_true_eq] at this
  omega
set_option maxRecDepth 100000 in
set_option maxHeartbeats 4000000 in
theorem tpsay_all : ∀ N : Nat, Say N := by
  intro N
  induction N with
  | zero => intro T x y w h; have := szT_pos T; omega
  | succ N ih =>
  intro T x y w hN hT hpl hg
  cases hT with
  | mk a b f g p q hk hn hs hL hM hK cL cK cM rL rM =>
  rename_i k n s L K V
  rw [plainT_eq] at hpl
  simp only [Bool.and_eq_true, VT.ls, VT.vs] at hpl
  obtain ⟨⟨hnode, hpL⟩, hpV⟩ := hpl
  have hsz : szT (.mk k n s L K V) = 1 + szL L + szL V := by simp only [szT]
  rw [hsz] at hN
  have CLs := hid (fun (X : World) (hX : Below w.heap.size w X) => tplist_of N ih L x a f g X (hg.on hX) hL (fun i t h => (cL i t h).onto hX) (fun i t h => (rL i t h).onto hX) (by omega) hpL)
  have CPs := hid (fun (X : World) (hX : Below w.heap.size w X) => tppairs_of N ih V K y b p q X (hg.on hX) hM hK (fun i t h => ⟨keepCell hX (cK i t h).1, (cK i t h).2⟩) (fun i t h => (cM i t h).onto hX) (fun i t h => (rM i t h).onto hX) (by omega) hpV)
  simp only [vv, VT.kd, VT.nm, VT.st]
  obtain ⟨oL, capL, rfl, hL1, hL2, hL3⟩ := hL
  obtain ⟨oM, capM, rfl, hM1, hM2, hM3⟩ := hM
  have HG := hid hg
  have HB0 := hid (valloc_bel (Below.refl w.heap.size w) (.cells #[.int .i64 k, .int .i64 n, .string s, .slice oL L.length capL, .slice oM V.length capM] 27))
  have hsy : syT (.mk k n s L K V) = if k = 0 then false else if k = 3 then fltB s.data.toList else if k = 7 then (stB s.data.toList || infB (unS s.data.toList)) else if k = 5 then syL L else if k = 6 then syL V else true := by simp only [syT]
  rw [hsy]
  clear hsy cL cK cM rL rM hpL hpV hsz ih
  by_cases k0 : k = 0
  · subst k0
    rw [if_pos rfl]
    clear CLs CPs hnode
    go_enter Tryz.func19, Tryz.ntmps19
    go_wp2_with fail
    go_ret
    exact ⟨rfl, HB0.out⟩
  obtain ⟨k0a, k0b⟩ := ikey k 0 k0
  rw [if_neg k0]
  by_cases k3 : k = 3
  · subst k3
    rw [if_pos rfl]
    have hnum := node_num hnode
    have hnz : s.size ≤ 400 := by
      unfold numB at hnum; simp only [Bool.and_eq_true, decide_eq_true_eq] at hnum; rw [size_list] at hnum; exact hnum.2
    have CA := hid (fun X => Tryz.strings_ContainsAny_laid s ⟨#[46, 101, 69]⟩ X (by omega) (by decide) (fun j b h => num_asc hnum b (List.mem_of_getElem? h)) (fun j b h => by
      have hm := List.mem_of_getElem? h
      have : ∀ c ∈ (⟨#[46, 101, 69]⟩ : ByteArray).data.toList, c.toNat < 128 := by decide
      exact this b hm))
    rw [show (⟨#[46, 101, 69]⟩ : ByteArray).data.toList = [46, 101, 69] from rfl, flt_is] at CA
    clear CLs CPs hnode hnum
    generalize fltB s.data.toList = R at *
    go_enter Tryz.func19, Tryz.ntmps19
    go_wp2_with fail
    go_at_call 35
    refine (CA.out _).mono ?_
    rintro e w1 ⟨rfl, hb1⟩
    have HB1 := hid (vonto HB0.out hb1)
    clear hb1 CA
    go_wp2_with fail
    go_ret
    exact ⟨rfl, HB1.out⟩
  obtain ⟨k3a, k3b⟩ := ikey k 3 k3
  rw [if_neg k3]
  by_cases k7 : k = 7
  · subst k7
    rw [if_pos rfl]
    have hst := node_stamp hnode
    have CS := hid (fun (X : World) (hX : Below w.heap.size w X) => tstamp_any s X (by omega) (HG.out.on hX).t.m)
    have CE := hid (fun (X : World) (hX : Below w.heap.size w X) => tpend_any s X (by omega) (HG.out.on hX))
    clear CLs CPs hnode
    generalize stB s.data.toList = R1 at *
    generalize infB (unS s.data.toList) = R2 at *
    cases R1 with
    | true =>
      go_enter Tryz.func19, Tryz.ntmps19
      go_wp2_with fail
      go_at_call 36
      refine (CS.out _ HB0.out).mono ?_
      rintro e w1 ⟨rfl, hb1⟩
      have HB1 := hid (vonto HB0.out hb1)
      clear hb1 CS
      go_wp2_with fail
      go_ret
      exact ⟨rfl, HB1.out⟩
    | false =>
      have c2 : (w.alloc (.cells #[.int .i64 7, .int .i64 n, .string s, .slice oL L.length capL, .slice oM V.length capM] 27)).cell? ⟨w.heap.size, 2, none⟩ = some (.string s) := (tpbox w _ _ _ _ _).2.2.1
      go_enter Tryz.func19, Tryz.ntmps19
      go_wp2_with fail
      go_at_call 36
      refine (CS.out _ HB0.out).mono ?_
      rintro e w1 ⟨rfl, hb1⟩
      have HB1 := hid (vonto HB0.out hb1)
      replace c2 := keepCell hb1 c2
      have C2 := hid (CE.out w1 HB1.out)
      clear hb1 CS CE
      go_wp2_with fail
      go_at_call 37
      refine C2.out.mono ?_
      rintro e w2 ⟨rfl, hb2⟩
      have HB2 := hid (vonto HB1.out hb2)
      clear hb2 C2
      go_wp2_with fail
      go_ret
      exact ⟨rfl, HB2.out⟩
  obtain ⟨k7a, k7b⟩ := ikey k 7 k7
  rw [if_neg k7]
  by_cases k5 : k = 5
  · subst k5
    rw [if_pos rfl]
    clear CPs hnode
    generalize syL L = R at *
    go_enter Tryz.func19, Tryz.ntmps19
    go_wp2_with fail
    go_at_call 38
    refine (CLs.out _ HB0.out).mono ?_
    rintro e w1 ⟨rfl, hb1⟩
    have HB1 := hid (vonto HB0.out hb1)
    clear hb1 CLs
    go_wp2_with fail
    go_ret
    exact ⟨rfl, HB1.out⟩
  obtain ⟨k5a, k5b⟩ := ikey k 5 k5
  rw [if_neg k5]
  by_cases k6 : k = 6
  · subst k6
    rw [if_pos rfl]
    clear CLs hnode
    generalize syL V = R at *
    go_enter Tryz.func19, Tryz.ntmps19
    go_wp2_with fail
    go_at_call 39
    refine (CPs.out _ HB0.out).mono ?_
    rintro e w1 ⟨rfl, hb1⟩
    have HB1 := hid (vonto HB0.out hb1)
    clear hb1 CPs
    go_wp2_with fail
    go_ret
    exact ⟨rfl, HB1.out⟩
  obtain ⟨k6a, k6b⟩ := ikey k 6 k6
  rw [if_neg k6]
  clear CLs CPs hnode
  go_enter Tryz.func19, Tryz.ntmps19
  go_wp2_with fail
  go_ret
  exact ⟨rfl, HB0.out⟩
end Go.Proofs.YtiaepihdfbahaaaGreatDoor
