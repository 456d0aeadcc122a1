/- Plain mathematics: a text that is read as a path is that path's text. -/
import Derived.Test.YteimbjamnfkapaaGreatDoorCUnH
import Derived.Test.YteimbjamnfkapaaGreatDoorCPathTwo
import Derived.Test.YteimbjamnfkapaaGreatDoorCFlF
import Derived.Test.YteimbjamnfkapaaGreatDoorCMathFd
import Derived.Test.YteimbjamnfkapaaGreatDoorCCeA
/- unflat's columnsOf, walked. -/
namespace Go.Proofs.YteimbjamnfkapaaGreatDoor
open Go.RowKit Go.Maps
instance : DecidableEq ByteArray := fun a b => decidable_of_iff (a.data = b.data) ⟨fun h => by cases a; cases b; simp_all, fun h => by rw [h]⟩
theorem off_self {g k n c : Nat} (h : ¬ g = k) : (Value.slice (some ⟨g, 0, none⟩) n c).ownBlock = none ∨ (Value.slice (some ⟨g, 0, none⟩) n c).ownBlock ≠ some k := .inr (fun e => h (by injection e))
def prsN (c : ByteArray) : Option (List PStep) := parseP (47 :: c.data.toList)
def hasN (K : List ByteArray) (c : ByteArray) : Bool := K.any fun d => decide (d = c)
theorem hasN_iff {K : List ByteArray} {c : ByteArray} : hasN K c = true ↔ c ∈ K := by
 unfold hasN
 rw [List.any_eq_true]
 constructor
 ·rintro ⟨d, h1, h2⟩
  rw [decide_eq_true_iff] at h2
  rw [← h2]; exact h1
 ·exact fun h => ⟨c, h, decide_eq_true rfl⟩
def badN (K : List ByteArray) (i : Nat) : Int := match K[i]? with
 | none => 0
 | some c => match prsN c with
  | none => 4
  | some _ => if hasN (K.take i) c = true then 5 else 0
inductive CP (K : List ByteArray) : Int → Nat → List (List PStep) → Prop
 | bad (i : Nat) (h1 : ∀ k, k < i → badN K k = 0) (h2 : badN K i ≠ 0) (h3 : i < K.length) : CP K (badN K i) (i + 1) []
 | ok (C : List (List PStep)) (h1 : ∀ k, badN K k = 0) (h2 : K.map prsN = C.map some) : CP K 0 0 C
def ColP (K : List ByteArray) (w : World) (e : Ending) (w' : World) : Prop := ∃ v k i C, e = .returned (.tuple #[v, .int .i64 k, .int .i64 ((i : Nat) : Int)]) ∧ CP K k i C ∧ InC w' C v ∧ Below w.heap.size w w'
theorem InP.far {w w' : World} {q : List PStep} {v : Value} (h : InP w q v) (hk : ∀ (a : Addr) (u : Value), w.cell? a = some u → (∀ o n c, u ≠ .slice o n c) → w'.cell? a = some u) : InP w' q v := by
 obtain ⟨a, h1, h2⟩ := h
 exact ⟨a, h1, fun i s hs => ⟨hk _ _ (h2 i s hs).1 (by intros; intro e; cases e), hk _ _ (h2 i s hs).2.1 (by intros; intro e; cases e), hk _ _ (h2 i s hs).2.2.1 (by intros; intro e; cases e), (h2 i s hs).2.2.2⟩⟩
theorem Tryz.madeCo (n : Nat) (h : n ≤ 1000001) (w : World) : (Instr.makeSlice 79 (.int .i64 (n : Int)) (.int .i64 (n : Int))).run Tryz.prog w = .ok (.slice (some ⟨w.heap.size, 0, none⟩) n n) (w.alloc (.cells (madeCells #[.slice none 0 0] n) 41)) := by
 obtain ⟨i, hi, hz⟩ := Option.map_eq_some_iff.1 (show (Tryz.prog.info? 41).map (fun i => (i.zero, i.size, i.bytes)) = some (some (.slice none 0 0), 1, 24) by kernel_rfl)
 simp only [Prod.mk.injEq] at hz
 obtain ⟨hz, hs, hb⟩ := hz
 have := run_make (P := Tryz.prog) w 79 41 i _ Tryz.underlying79 hi hz .i64 .i64 n n (by omega) (Int.le_refl _) (by rw [hb]; omega) (by omega)
 rw [hs] at this
 simp only [Int.toNat_natCast, Nat.mul_one] at this
 exact this
abbrev stL : ByteArray → Lit := fun s => .string s.data.toList
structure CoS (w wr : World) (n : Nat) (K : List ByteArray) (j : Nat) (U : List Value) (Q : List (List PStep)) (L : List (ByteArray × Nat)) : Prop where
 bel : Below w.heap.size w wr
 own : wr.ownsRow w.heap.size 41 1 (.slice (some ⟨w.heap.size, 0, none⟩) n n) n U
 sl : ∀ u ∈ U, ∃ o a c, u = .slice o a c
 inp : ∀ (i : Nat) (p : List PStep), Q[i]? = some p → ∃ u, U[i]? = some u ∧ InP wr p u
 ql : Q.length = j
 mp : MpM wr 9 stL (w.heap.size + 1) L
 mo : ∀ e ∈ L, e.1.size ≤ 1000000
 ml : L.length = j
 see : ∀ c, (mpF L c = none ∧ c ∉ K.take j) ∨ (∃ v, mpF L c = some v ∧ 0 < v ∧ v ≤ n ∧ c ∈ K.take j)
theorem CoS.onto {w wr w' : World} {n : Nat} {K : List ByteArray} {j : Nat} {U : List Value} {Q : List (List PStep)} {L : List (ByteArray × Nat)} (h : CoS w wr n K j U Q L) (hb : Below wr.heap.size wr w') : CoS w w' n K j U Q L :=
 ⟨vonto h.bel hb, ownsRow_below h.own hb, h.sl, fun i p hp => by obtain ⟨u, h1, h2⟩ := h.inp i p hp; exact ⟨u, h1, h2.onto hb⟩, h.ql, h.mp.kept (hb.block _ h.mp.lt), h.mo, h.ml, h.see⟩
theorem cell_map {w : World} {k : TypeId} {lit : ByteArray → Lit} {m : Nat} {L : List (ByteArray × Nat)} (h : MpM w k lit m L) {a : Addr} {u : Value} (hu : w.cell? a = some u) : a.block ≠ m := by
 obtain ⟨es, c, h1, -⟩ := h
 intro e
 simp only [World.cell?] at hu
 rw [e, h1] at hu
 cases hu
theorem far_map {w w' : World} {m : Nat} (hm : ∀ a u, w.cell? a = some u → a.block ≠ m) (hg : w.grownBy w' (some m)) : ∀ (a : Addr) (u : Value), w.cell? a = some u → w'.cell? a = some u := fun a u hu => by
 have hne := hm a u hu
 have hlt := World.block_lt_of_cell? w a hu
 rw [World.cell?_of_block (hg.block a.block hlt (fun e => hne (by injection e)))]
 exact hu
theorem CoS.more {w wr w1 : World} {n : Nat} {K : List ByteArray} {j : Nat} {U : List Value} {Q : List (List PStep)} {L : List (ByteArray × Nat)} (h : CoS w wr n K j U Q L) (hj : j < n) {c : ByteArray} (hc : K[j]? = some c) (hcs : c.size ≤ 1000000) {p : List PStep} {v : Value} (hp : InP wr p v) (hv : ∃ o a c, v = .slice o a c) (hM : MpM w1 9 stL (w.heap.size + 1) ((c, j + 1) :: L)) (hg : wr.grownBy w1 (some (w.heap.size + 1))) :
  CoS w (w1.setCell ⟨w.heap.size, j, none⟩ v) n K (j + 1) (U.set j v) (Q ++ [p]) ((c, j + 1) :: L) := by
 have hl : U.length = n := by have := h.own.1; omega
 have hown1 := h.own.kept hg (off_self (by omega))
 have fk := far_map (fun a u => cell_map h.mp) hg
 have hs1 := hg.size
 have hlo := h.bel.size
 have fs : ∀ (a : Addr) (u : Value), wr.cell? a = some u → (∀ o n c, u ≠ .slice o n c) → (w1.setCell ⟨w.heap.size, j, none⟩ v).cell? a = some u := fun a u hu hns => by
  have h1 := fk a u hu
  rw [World.cell?_setCell_other _ _ _ _ (fun e => ?_)]
  ·exact h1
  ·rw [← e] at h1
   have h2 : w1.cell? ⟨w.heap.size, j, none⟩ = U[j]? := hown1.cellAt j (by omega)
   rw [h2] at h1
   obtain ⟨o, a', c', e2⟩ := h.sl u (List.mem_of_getElem? h1)
   exact hns o a' c' e2
 refine ⟨vset_bel (h.bel.grown hg hlo (fun k hk => by injection hk with hk; omega)) (Nat.le_refl _), (hown1.stored j v).1, fun u hu => ?_, fun i q hq => ?_, by rw [List.length_append, h.ql]; rfl, ?_, fun e he => ?_, by rw [List.length_cons, h.ml], fun d => ?_⟩
 ·rcases List.mem_or_eq_of_mem_set hu with hu | rfl
  ·exact h.sl u hu
  ·exact hv
 ·rcases Nat.lt_or_ge i j with hi | hi
  ·rw [List.getElem?_append_left (by rw [h.ql]; exact hi)] at hq
   obtain ⟨u, h1, h2⟩ := h.inp i q hq
   exact ⟨u, by rw [List.getElem?_set_ne (by omega)]; exact h1, h2.far fs⟩
  ·rw [List.getElem?_append_right (by rw [h.ql]; exact hi), h.ql] at hq
   have hij : i = j := by have := lt_of_some hq; simp at this; omega
   subst hij
   rw [Nat.sub_self] at hq
   simp at hq
   subst hq
   exact ⟨v, List.getElem?_set_self (by omega), hp.far fs⟩
 ·refine hM.kept ?_
  exact (set_grownW w1 w.heap.size j v).block _ hM.lt (fun e => by injection e with e; omega)
 ·rcases List.mem_cons.1 he with rfl | he
  ·exact hcs
  ·exact h.mo e he
 ·have htk : K.take (j + 1) = K.take j ++ [c] := by rw [List.take_add_one, hc]; rfl
  unfold mpF
  by_cases hcd : c = d
  ·right
   rw [if_pos hcd]
   exact ⟨j + 1, rfl, by omega, by omega, by rw [htk, hcd]; simp⟩
  ·rw [if_neg hcd]
   rcases h.see d with ⟨h1, h2⟩ | ⟨v, h1, h2, h3, h4⟩
   ·left
    refine ⟨h1, ?_⟩
    rw [htk, List.mem_append, List.mem_singleton]
    rintro (h5 | h5)
    ·exact h2 h5
    ·exact hcd h5.symm
   ·right
    exact ⟨v, h1, h2, h3, by rw [htk]; exact List.mem_append_left _ h4⟩
theorem cos_new (w : World) (n : Nat) (hn : n ≤ 1000001) (K : List ByteArray) : CoS w ((w.alloc (.cells (madeCells #[.slice none 0 0] n) 41)).alloc (.map #[] 0)) n K 0 (List.replicate n (.slice none 0 0)) [] [] := by
 have h0 := World.ownsRow_lit (e := 41) (size := 1) (base := w.heap.size) w (madeCells #[.slice none 0 0] n) n (Nat.le_refl _) (by unfold maxLen; omega) (by rw [size_madeCells]; omega)
 rw [toList_madeCells_one] at h0
 have hs : (w.alloc (.cells (madeCells #[.slice none 0 0] n) 41)).heap.size = w.heap.size + 1 := by simp
 refine ⟨valloc_bel (valloc_bel (Below.refl _ _) _) _, ownsRow_below h0 (valloc_bel (Below.refl _ _) _), fun u hu => ?_, fun i p hp => by simp at hp, rfl, mp_new 9 stL ?_, fun e he => by simp at he, rfl, fun c => .inl ⟨rfl, by simp⟩⟩
 ·obtain ⟨-, rfl⟩ := List.mem_replicate.1 hu
  exact ⟨_, _, _, rfl⟩
 ·rw [← hs]
  simp only [World.alloc, Array.getElem?_push_size]
theorem inc_col {w wr : World} {n : Nat} {K : List ByteArray} {U : List Value} {Q : List (List PStep)} {L : List (ByteArray × Nat)} (h : CoS w wr n K n U Q L) (hn : n ≤ 1000001) : InC wr Q (.slice (some ⟨w.heap.size, 0, none⟩) n n) := by
 refine ⟨⟨w.heap.size, 0, none⟩, ⟨_, n, by rw [h.ql], by rw [h.ql]; exact Nat.le_refl _, by unfold maxLen; omega, fun _ => rfl⟩, fun i p hp => ?_⟩
 obtain ⟨u, h1, h2⟩ := h.inp i p hp
 have hi := lt_of_some hp
 rw [h.ql] at hi
 exact ⟨u, by rw [add_at, h.own.cellAt i (by omega)]; exact h1, h2⟩
theorem inc_nil (w : World) : InC w [] (.slice none 0 0) := ⟨⟨0, 0, none⟩, ⟨none, 0, rfl, Nat.le_refl _, Nat.zero_le _, fun h => absurd h (by simp)⟩, fun i s h => by simp at h⟩
set_option maxRecDepth 100000 in
set_option maxHeartbeats 4000000 in
theorem ucol_any (K : List ByteArray) (v : Value) (w : World) (hK : InS w K v) (hg : Glob5 w) (hn : K.length ≤ 100000) (hs : ∀ c ∈ K, c.size ≤ 10000) :
  Calls Tryz.prog 38 #[v] w (ColP K w) := by
 obtain ⟨a, ⟨o, cap, rfl, h1, h2, h3⟩, hk⟩ := hK
 unfold maxLen at h2
 have HK := hid hk
 have HS := hid hs
 have HG := hid hg
 have H3 := hid h3
 obtain ⟨n, hnn⟩ : ∃ n, K.length = n := ⟨_, rfl⟩
 rw [hnn] at hn h1 h3 ⊢
 have HN := hid hnn
 have hmk := Tryz.madeCo n (by omega)
 have hmm := @run_makeMap Tryz.prog
 clear hk hs hg h3 hnn
 go_enter Tryz.func38, Tryz.ntmps38
 go_upto_region 3 with fail
 refine cewp_gen ?_
 intro W hW
 have HCO := hid (show CoS w W n K 0 (List.replicate n (.slice none 0 0)) [] [] by rw [hW]; exact cos_new w n (by omega) K)
 clear hW hmk hmm
 go_wp2_with fail
 go_loopw [17] (fun i wr => ∃ (j : Nat) (U : List Value) (Q : List (List PStep)) (L : List (ByteArray × Nat)), i = .int .i64 j ∧ j ≤ n ∧ Hid (CoS w wr n K j U Q L) ∧ Hid (∀ k, k < j → badN K k = 0) ∧ Hid ((K.take j).map prsN = Q.map some)) (fun i _ => n - (intOf i).toNat)
 case atStart => exact ⟨0, _, _, _, rfl, Nat.zero_le _, HCO, hid (fun k h => absurd h (Nat.not_lt_zero k)), hid rfl⟩
 case round =>
  clear HCO
  obtain ⟨j, U, Q, L, rfl, hj, HCO, HBN, HPQ⟩ := hrel
  by_cases hlt : j < n
  ·obtain ⟨c, hc⟩ : ∃ c, K[j]? = some c := ⟨K[j]'(by rw [HN.out]; exact hlt), List.getElem?_eq_getElem _⟩
   have hcm := List.mem_of_getElem? hc
   have hcs := HS.out c hcm
   obtain rfl := H3.out (by rw [HN.out]; omega)
   have k0 := keepCell HCO.out.bel (HK.out j c hc).1
   have CP' := hid (fun X (hX : Below wr.heap.size wr X) => parse_any ((⟨#[47]⟩ : ByteArray) ++ c) X (HG.out.on (vonto HCO.out.bel hX)) (by rw [ByteArray.size_append]; show 1 + c.size ≤ _; omega))
   have hd : ((⟨#[47]⟩ : ByteArray) ++ c).data.toList = 47 :: c.data.toList := by
    rw [ByteArray.data_append, Array.toList_append]; rfl
   have HC := hid hc
   have HDD := hid hd
   clear hc hcm hd
   go_wp2_with fail
   go_at_call 36
   refine (CP'.out _ (Below.refl _ _)).mono ?_
   rintro e w1 ⟨hpost, hb1⟩
   rw [HDD.out] at hpost
   have HC1 := hid (HCO.out.onto hb1)
   rcases hpost with ⟨v1, q, hq, rfl, hin⟩ | ⟨hq, rfl⟩
   ·have HQ := hid (show prsN c = some q from hq)
    obtain ⟨op, cp, rfl⟩ := inp_slice hin
    have HIN := hid hin
    have hlk := mp_look1 st_kr HC1.out.mp HC1.out.mo 135 (by kernel_rfl) c (by omega)
    rcases HC1.out.see c with ⟨hm1, hm2⟩ | ⟨z, hm1, hm2, hm3, hm4⟩
    ·rw [hm1] at hlk
     simp only [Option.getD_none] at hlk
     have HB0 := hid (show badN K j = 0 by unfold badN; rw [HC.out]; simp only; rw [HQ.out]; simp only; rw [if_neg (fun h => hm2 (hasN_iff.1 h))])
     obtain ⟨w2, hrun, hm5, hg5⟩ := mp_put st_kr HC1.out.mp 135 (by kernel_rfl) c (by omega) (j + 1) (by omega) (by have := HC1.out.ml; omega)
     have HMO := hid (HC1.out.more hlt HC.out (by omega) HIN.out ⟨_, _, _, rfl⟩ hm5 hg5)
     have hcell : ∃ u, w2.cell? ⟨w.heap.size, j, none⟩ = some u := by
      have h5 := HC1.out.own.kept hg5 (off_self (by omega))
      have hl : U.length = n := by have := HC1.out.own.1; omega
      rw [h5.cellAt j (by omega)]
      exact ⟨_, List.getElem?_eq_getElem (by omega)⟩
     obtain ⟨u, hu⟩ := hcell
     have hf : w2.frozen? ⟨w.heap.size, j, none⟩ = false := (HC1.out.own.kept hg5 (off_self (by omega))).frozenAt j
     have HBN2 := hid (show ∀ k, k < j + 1 → badN K k = 0 from fun k hk => by
      by_cases hkj : k = j
      ·subst hkj; exact HB0.out
      ·exact HBN.out k (by omega))
     have HPQ2 := hid (show (K.take (j + 1)).map prsN = (Q ++ [q]).map some by
      rw [List.take_add_one, HC.out, List.map_append, HPQ.out, List.map_append]
      simp [HQ.out])
     push_cast at hrun
     clear hm1 hm2 hm5 hg5 hin hq hb1
     go_wp2_with fail
     go_roundw
     case rel => exact ⟨j + 1, _, _, _, val_int (by omega), hlt, HMO, HBN2, HPQ2⟩
     case measure => simp [intOf]; omega
    ·rw [hm1] at hlk
     simp only [Option.getD_some] at hlk
     have HB0 := hid (show badN K j = 5 by unfold badN; rw [HC.out]; simp only; rw [HQ.out]; simp only; rw [if_pos (hasN_iff.2 hm4)])
     have HCPB := hid (show CP K 5 (j + 1) [] by
      rw [← HB0.out]
      exact .bad j HBN.out (by rw [HB0.out]; decide) (by rw [HN.out]; exact hlt))
     clear hm1 hm4 hin hq hb1
     go_wp2_with fail
     refine bodyPost_ret (v := .tuple #[.slice none 0 0, .int .i64 5, .int .i64 (((j + 1 : Nat)) : Int)]) (by simp [results, Tryz.results38, go_sem]) rfl ?_
     exact ⟨_, _, _, _, rfl, HCPB.out, inc_nil _, HC1.out.bel⟩
   ·have HQ := hid (show prsN c = none from hq)
    have HB0 := hid (show badN K j = 4 by unfold badN; rw [HC.out]; simp only; rw [HQ.out])
    have HCPB := hid (show CP K 4 (j + 1) [] by
     rw [← HB0.out]
     exact .bad j HBN.out (by rw [HB0.out]; decide) (by rw [HN.out]; exact hlt))
    clear hq hb1
    go_wp2_with fail
    refine bodyPost_ret (v := .tuple #[.slice none 0 0, .int .i64 4, .int .i64 (((j + 1 : Nat)) : Int)]) (by simp [results, Tryz.results38, go_sem]) rfl ?_
    exact ⟨_, _, _, _, rfl, HCPB.out, inc_nil _, HC1.out.bel⟩
  ·have hjn : j = n := by omega
   subst hjn
   have HCPB := hid (show CP K 0 0 Q from .ok Q (fun k => by
    rcases Nat.lt_or_ge k j with h | h
    ·exact HBN.out k h
    ·unfold badN; rw [List.getElem?_eq_none (by rw [HN.out]; exact h)]) (by have := HPQ.out; rwa [List.take_of_length_le (by rw [HN.out]; exact Nat.le_refl _)] at this))
   go_wp2_with fail
   refine bodyPost_ret (v := .tuple #[.slice (some ⟨w.heap.size, 0, none⟩) j j, .int .i64 0, .int .i64 ((0 : Nat) : Int)]) (by simp [results, Tryz.results38, go_sem]) rfl ?_
   exact ⟨_, _, _, _, rfl, HCPB.out, inc_col HCO.out (by omega), HCO.out.bel⟩
end Go.Proofs.YteimbjamnfkapaaGreatDoor
namespace Go.Proofs.YteimbjamnfkapaaGreatDoor
open Go.RowKit
theorem first_mem {c : UInt8} : ∀ {r : List UInt8}, c ∈ r → ∃ a b, r = a ++ c :: b ∧ c ∉ a
 | [], h => by simp at h
 | x :: r, h => by
  by_cases e : x = c
  ·subst e; exact ⟨[], r, rfl, by simp⟩
  ·have : c ∈ r := by
    rcases List.mem_cons.1 h with h1 | h1
    ·exact absurd h1.symm e
    ·exact h1
   obtain ⟨a, b, h1, h2⟩ := first_mem this
   exact ⟨x :: a, b, by rw [h1]; rfl, fun hm => by
    rcases List.mem_cons.1 hm with h3 | h3
    ·exact e h3.symm
    ·exact h2 h3⟩
theorem flat_congr {α β : Type} {f g : α → List β} : ∀ {l : List α}, (∀ x ∈ l, f x = g x) → l.flatMap f = l.flatMap g
 | [], _ => rfl
 | a :: l, h => by rw [List.flatMap_cons, List.flatMap_cons, h a (by simp), flat_congr (l := l) (fun x hx => h x (by simp [hx]))]
theorem split_flat : ∀ (n : Nat) (r : List UInt8), r.length ≤ n → (Lib.split r [47]).flatMap (fun x => 47 :: x) = 47 :: r
 | 0, r, h => by
  have : r = [] := List.eq_nil_of_length_eq_zero (by omega)
  subst this
  rw [split_no (by simp)]; rfl
 | n + 1, r, h => by
  by_cases hm : (47 : UInt8) ∈ r
  ·obtain ⟨a, b, e, ha⟩ := first_mem hm
   subst e
   rw [split_at ha, List.flatMap_cons, split_flat n b (by simp at h; omega)]
   simp
  ·rw [split_no hm]; simp
theorem dv_pos {l : List UInt8} (h : digB l = true) (h0 : ¬ l = [48]) : 1 ≤ dv 0 l := by
 unfold digB at h
 simp only [Bool.and_eq_true, Bool.not_eq_true'] at h
 obtain ⟨⟨h1, h2⟩, h3⟩ := h
 cases l with
 | nil => simp at h1
 | cons c r =>
  have hc : 48 ≤ c.toNat ∧ c.toNat ≤ 57 := by
   have := List.all_eq_true.1 h3 c (by simp)
   simpa using this
  have hne : ¬ c = 48 := by
   intro e
   subst e
   cases r with
   | nil => exact h0 rfl
   | cons d r => simp at h2
  have hc2 : ¬ c.toNat = 48 := fun e => hne (UInt8.toNat_inj.1 e)
  have := dv_ge r (0 * 10 + (c.toNat - 48))
  rw [dv_cons]; omega
theorem dd_back : ∀ (n : Nat) (l : List UInt8), l.length ≤ n → digB l = true → Lib.decDigits (dv 0 l) = l
 | 0, l, hl, h => by
  have : l = [] := List.eq_nil_of_length_eq_zero (by omega)
  subst this
  cases h
 | n + 1, l, hl, h => by
  rcases List.eq_nil_or_concat l with rfl | ⟨r, c, e⟩
  ·cases h
  rw [List.concat_eq_append] at e
  subst e
  have hall := h
  unfold digB at hall
  simp only [Bool.and_eq_true, Bool.not_eq_true'] at hall
  obtain ⟨⟨h1, h2⟩, h3⟩ := hall
  have hc : 48 ≤ c.toNat ∧ c.toNat ≤ 57 := by
   have := List.all_eq_true.1 h3 c (by simp)
   simpa using this
  have hcb : UInt8.ofNat (48 + (c.toNat - 48)) = c := by
   apply UInt8.toNat_inj.1
   simp; omega
  cases r with
  | nil =>
   have e : dv 0 ([] ++ [c]) = c.toNat - 48 := by rw [dv_snoc]; simp [dv]
   rw [e, Lib.decDigits, dif_pos (by omega), hcb]; rfl
  | cons d r =>
   have hd : ¬ d = 48 := by
    intro e
    subst e
    simp at h2
   have hdr : digB (d :: r) = true := by
    unfold digB
    simp only [Bool.and_eq_true, Bool.not_eq_true']
    refine ⟨⟨rfl, ?_⟩, ?_⟩
    ·simp [hd]
    ·rw [List.all_eq_true] at h3 ⊢
     intro b hb
     exact h3 b (by
      simp at hb ⊢
      exact hb.imp id (fun h => Or.inl h))
   have hp := dv_pos hdr (fun e => by injection e with e _; exact hd e)
   have ih := dd_back n (d :: r) (by simp at hl ⊢; omega) hdr
   rw [dv_snoc, Lib.decDigits, dif_neg (by omega)]
   rw [show (dv 0 (d :: r) * 10 + (c.toNat - 48)) / 10 = dv 0 (d :: r) by omega, show (dv 0 (d :: r) * 10 + (c.toNat - 48)) % 10 = c.toNat - 48 by omega, ih, hcb]
theorem ps_text {l : List UInt8} (h : psOk l = true) : stepT (psStep l) = l ∧ Frm (psStep l) := by
 unfold psOk at h
 unfold psStep
 by_cases hd : digB l = true
 ·rw [if_pos hd, decide_eq_true_eq] at h
  rw [if_pos hd, if_pos (by omega)]
  refine ⟨?_, Or.inl ⟨rfl, rfl, by simp, by simp; omega⟩⟩
  unfold stepT
  rw [if_pos rfl]
  show Lib.itoa ((dv 0 l : Nat) : Int) = l
  rw [Lib.itoa_nonneg]
  exact dd_back l.length l (Nat.le_refl _) hd
 ·rw [if_neg hd, decide_eq_true_eq] at h
  rw [if_neg hd]
  refine ⟨?_, Or.inr ⟨rfl, rfl⟩⟩
  unfold stepT
  rw [if_neg (by simp)]
  show keyT (mkS (unK l)).data.toList = l
  rw [mkS_list]; exact h
theorem parse_sound {S : List UInt8} {p : List PStep} (h : parseP S = some p) : textP p = S ∧ ∀ s ∈ p, Frm s := by
 unfold parseP at h
 by_cases h0 : S = []
 ·rw [if_pos h0] at h
  injection h with h
  subst h
  exact ⟨h0.symm, by simp⟩
 rw [if_neg h0] at h
 by_cases h1 : S.getD 0 0 = 47
 ·rw [if_neg (by simpa using h1)] at h
  by_cases h2 : (piecesP S).all psOk = true
  ·rw [if_pos h2] at h
   injection h with h
   subst h
   rw [List.all_eq_true] at h2
   have hS : S = 47 :: S.drop 1 := by
    cases S with
    | nil => exact absurd rfl h0
    | cons a r => simp at h1; rw [h1]; rfl
   constructor
   ·unfold textP
    rw [List.flatMap_map]
    have : (piecesP S).flatMap (fun x => 47 :: stepT (psStep x)) = (piecesP S).flatMap (fun x => 47 :: x) := by
     apply flat_congr
     intro x hx
     rw [(ps_text (h2 x hx)).1]
    rw [this]
    unfold piecesP
    rw [split_flat _ _ (Nat.le_refl _), ← hS]
   ·intro s hs
    obtain ⟨x, hx, rfl⟩ := List.mem_map.1 hs
    exact (ps_text (h2 x hx)).2
  ·rw [if_neg h2] at h; cases h
 ·rw [if_pos (by simpa using h1)] at h; cases h
end Go.Proofs.YteimbjamnfkapaaGreatDoor
/- unflat's mapOf, walked. -/
namespace Go.Proofs.YteimbjamnfkapaaGreatDoor
open Go.RowKit Go.Maps
def cdC (c : ByteArray) : Int := (celT c.data.toList).2
def trC (c : ByteArray) : VT := (celT c.data.toList).1
theorem cwd_bare {l : List UInt8} {T : VT} (h : cwdT l = some T) : T.ls = [] ∧ T.vs = [] := by
 unfold cwdT at h
 repeat' split at h
 all_goals first | (injection h with h; subst h; exact ⟨rfl, rfl⟩) | cases h
theorem cel_bare (c : ByteArray) : (trC c).ls = [] ∧ (trC c).vs = [] := by
 unfold trC celT
 split
 ·exact ⟨rfl, rfl⟩
 ·split
  ·rename_i h; exact cwd_bare h
  ·split
   ·unfold cnmT; split <;> exact ⟨rfl, rfl⟩
   ·split
    ·split <;> exact ⟨rfl, rfl⟩
    ·split
     ·unfold strR; split <;> exact ⟨rfl, rfl⟩
     ·unfold strR; split <;> exact ⟨rfl, rfl⟩
def badC (R : List ByteArray) (i : Nat) : Int := match R[i]? with | none => 0 | some c => if cdC c = 9 then 0 else cdC c
def lfU (C : List (List PStep)) (R : List ByteArray) (i : Nat) : Option (List PStep × VT) := match C[i]?, R[i]? with
 | some p, some c => if cdC c = 9 then none else some (p, trC c)
 | _, _ => none
def nuU (R : List ByteArray) (i : Nat) : Option Nat := match R[i]? with
 | some c => if cdC c = 9 then none else some (i + 1)
 | none => none
def lvU (C : List (List PStep)) (R : List ByteArray) (n : Nat) : Lvs := (List.range n).filterMap (lfU C R)
def nvU (R : List ByteArray) (n : Nat) : List Nat := (List.range n).filterMap (nuU R)
inductive MP (C : List (List PStep)) (R : List ByteArray) : Int → Nat → VT → Prop
 | bad (i : Nat) (h1 : ∀ k, k < i → badC R k = 0) (h2 : badC R i ≠ 0) : MP C R (badC R i) (i + 1) zeroT
 | none (h1 : ∀ k, badC R k = 0) (h2 : lvU C R R.length = []) : MP C R 8 0 zeroT
 | fault (k : Int) (i : Nat) (T : VT) (c : Nat) (h1 : ∀ k, badC R k = 0) (h2 : lvU C R R.length ≠ []) (h3 : BP (lvU C R R.length) k i T) (h4 : k ≠ 0) (h5 : (nvU R R.length)[i]? = some c) : MP C R k c zeroT
 | nomap (T : VT) (h1 : ∀ k, badC R k = 0) (h2 : lvU C R R.length ≠ []) (h3 : BP (lvU C R R.length) 0 0 T) (h4 : T.kd ≠ 6) : MP C R 8 0 zeroT
 | ok (T : VT) (h1 : ∀ k, badC R k = 0) (h2 : lvU C R R.length ≠ []) (h3 : BP (lvU C R R.length) 0 0 T) (h4 : T.kd = 6) : MP C R 0 0 T
theorem lvU_more {C : List (List PStep)} {R : List ByteArray} (n : Nat) : lvU C R (n + 1) = lvU C R n ++ (lfU C R n).toList := by
 unfold lvU
 rw [List.range_succ, List.filterMap_append]
 congr 1
theorem nvU_more {R : List ByteArray} (n : Nat) : nvU R (n + 1) = nvU R n ++ (nuU R n).toList := by
 unfold nvU
 rw [List.range_succ, List.filterMap_append]
 congr 1
theorem lvU_le (C : List (List PStep)) (R : List ByteArray) (n : Nat) : (lvU C R n).length ≤ n := by
 unfold lvU
 have := List.length_filterMap_le (lfU C R) (List.range n)
 rwa [List.length_range] at this
theorem lvU_mem {C : List (List PStep)} {R : List ByteArray} {n : Nat} {e : List PStep × VT} (h : e ∈ lvU C R n) : ∃ (i : Nat) (c : ByteArray), C[i]? = some e.1 ∧ R[i]? = some c ∧ e.2 = trC c := by
 unfold lvU at h
 obtain ⟨i, -, h2⟩ := List.mem_filterMap.1 h
 unfold lfU at h2
 split at h2
 ·rename_i p c hp hc
  split at h2
  ·cases h2
  ·injection h2 with h2; subst h2; exact ⟨i, c, hp, hc, rfl⟩
 ·cases h2
theorem BP.zero {l : Lvs} {i : Nat} {T : VT} (h : BP l 0 i T) : i = 0 := by
 generalize hk : (0 : Int) = k at h
 cases h with
 | none _ => rfl
 | bad i h1 h2 => exact absurd hk.symm h2
 | gap i _ _ _ _ => cases hk
 | great _ _ _ _ => rfl
 | ok _ _ _ _ _ _ => rfl
theorem BP.fault_ix {l : Lvs} {k : Int} {i : Nat} {T : VT} (h : BP l k i T) (hk : k ≠ 0) (hl : l ≠ []) : i < l.length := by
 have h0 : 0 < l.length := List.length_pos_iff.2 hl
 cases h with
 | none h => exact absurd h hl
 | bad i h1 h2 =>
  rcases Nat.lt_or_ge i l.length with h | h
  ·exact h
  ·exact absurd (bad_past h) h2
 | gap i _ _ _ h3 =>
  obtain ⟨e, he, -⟩ := h3
  exact lt_of_some he
 | great _ _ _ _ => exact h0
 | ok _ _ _ _ _ _ => exact absurd rfl hk
theorem nvU_len (C : List (List PStep)) (R : List ByteArray) (hl : C.length = R.length) : ∀ n, n ≤ R.length → (nvU R n).length = (lvU C R n).length
 | 0, _ => rfl
 | n + 1, hn => by
  rw [lvU_more, nvU_more, List.length_append, List.length_append, nvU_len C R hl n (by omega)]
  have hc : C[n]? = some (C[n]'(by omega)) := List.getElem?_eq_getElem _
  have hr : R[n]? = some (R[n]'(by omega)) := List.getElem?_eq_getElem _
  unfold lfU nuU
  rw [hc, hr]
  simp only
  split <;> rfl
def MapP (C : List (List PStep)) (R : List ByteArray) (w : World) (e : Ending) (w' : World) : Prop := ∃ T x y k i, e = .returned (.tuple #[vv T x y, .int .i64 k, .int .i64 ((i : Nat) : Int)]) ∧ MP C R k i T ∧ HS w' (fun k => w.heap.size ≤ k ∧ k < w'.heap.size) T x y ∧ Below w.heap.size w w'
theorem bare_hv {w w' : World} {T : VT} {x y : Value} (h : HV w T x y) (h1 : T.ls = []) (h2 : T.vs = []) : HV w' T x y := by
 cases h with
 | mk a b f g p q hk hn hs hL hM hK cL cK cM rL rM =>
  simp only [VT.ls, VT.vs] at h1 h2
  subst h1 h2
  have hK0 : ∀ (K : List ByteArray), K.length = ([] : List VT).length → K = [] := fun K h => List.eq_nil_of_length_eq_zero h
  obtain rfl := hK0 _ hK
  exact .mk a b f g p q hk hn hs hL hM hK (fun i t h => by simp at h) (fun i u h => by simp at h) (fun i t h => by simp at h) (fun i t h => by simp at h) (fun i t h => by simp at h)
theorem Tryz.infoLeafU : (Tryz.prog.info? 43).map (fun i => (i.zero, i.size, i.bytes)) = some (some (.agg #[.slice none 0 0, .int .i64 0, .int .i64 0, .string ⟨#[]⟩, .slice none 0 0, .slice none 0 0]), 6, 104) := by kernel_rfl
structure MaS (B : Nat) (W0 wr : World) (v nv : Value) (E : List LE) (N : List Nat) : Prop where
 bel : Below B W0 wr
 lo : B ≤ wr.heap.size
 own : wr.ownsRow B 43 6 v E.length (E.flatMap lcE)
 nums : wr.ownsRow B 3 1 nv N.length (pI N)
 pin : ∀ e ∈ E, InP W0 e.p e.u ∧ Bare e
theorem MaS.onto {B : Nat} {W0 wr w' : World} {v nv : Value} {E : List LE} {N : List Nat} (h : MaS B W0 wr v nv E N) (hb : Below wr.heap.size wr w') : MaS B W0 w' v nv E N :=
 ⟨h.bel.trans (hb.mono h.lo), Nat.le_trans h.lo hb.size, ownsRow_below h.own hb, ownsRow_below h.nums hb, h.pin⟩
theorem MaS.leaf {B : Nat} {W0 wr w9 : World} {v v' nv : Value} {E : List LE} {N : List Nat} (h : MaS B W0 wr v nv E N) (e : LE) (he : InP W0 e.p e.u ∧ Bare e) (ho : w9.ownsRow B 43 6 v' (E.length + 1) (E.flatMap lcE ++ lcE e)) (hg : wr.grownBy w9 v.ownBlock) : MaS B W0 w9 v' nv (E ++ [e]) N := by
 refine ⟨h.bel.grown hg h.lo (fun q hq => (h.own.lt q hq).1), Nat.le_trans h.lo hg.size, ?_, h.nums.kept hg (own_ne h.nums h.own (by decide)), fun a ha => ?_⟩
 ·rw [List.length_append, List.flatMap_append]; simpa using ho
 ·rcases List.mem_append.1 ha with ha | ha
  ·exact h.pin a ha
  ·rw [List.mem_singleton.1 ha]; exact he
theorem MaS.num {B : Nat} {W0 wr w9 : World} {v nv nv' : Value} {E : List LE} {N : List Nat} (h : MaS B W0 wr v nv E N) (n : Nat) (ho : w9.ownsRow B 3 1 nv' (N.length + 1) (pI N ++ [.int .i64 (n : Int)])) (hg : wr.grownBy w9 nv.ownBlock) : MaS B W0 w9 v nv' E (N ++ [n]) := by
 refine ⟨h.bel.grown hg h.lo (fun q hq => (h.nums.lt q hq).1), Nat.le_trans h.lo hg.size, h.own.kept hg (own_ne h.own h.nums (by decide)), ?_, h.pin⟩
 rw [List.length_append]; simpa [pI] using ho
theorem MaS.inlf {W0 wr : World} {v nv : Value} {E : List LE} {N : List Nat} (h : MaS W0.heap.size W0 wr v nv E N) : InLf wr (E.map LE.pt) v := by
 have hc := h.own
 rcases hc with ⟨-, ⟨rfl, h0⟩ | ⟨g, cap, cur, rfl, -, -, hn, hcm, -, -⟩⟩
 ·have : E = [] := List.eq_nil_of_length_eq_zero h0
  subst this
  exact ⟨⟨0, 0, none⟩, ⟨none, 0, rfl, Nat.le_refl _, Nat.zero_le _, fun h => absurd h (by simp)⟩, fun i s h => by simp at h⟩
 have key : ∀ (i : Nat) (e : LE), E[i]? = some e → ∀ (c : Nat) (u : Value), (lcE e)[c]? = some u → wr.cell? ⟨g, i * 6 + c, none⟩ = some u := by
  intro i e he c u hu
  have hi := lt_of_some he
  have hc : c < 6 := lt_of_some hu
  rw [h.own.cellAt (i * 6 + c) (by omega), flat_at lcE 6 (fun _ => rfl) E i c e he hc]
  exact hu
 refine ⟨⟨g, 0, none⟩, ⟨_, cap, by rw [List.length_map], by simpa using hn, hcm, fun _ => rfl⟩, fun i e' he' => ?_⟩
 rw [List.getElem?_map] at he'
 obtain ⟨e, he, rfl⟩ := Option.map_eq_some_iff.1 he'
 obtain ⟨h1, h2⟩ := h.pin e (List.mem_of_getElem? he)
 refine ⟨e.u, e.x, e.y, ?_, ?_, h1.onto h.bel, h2.2 wr⟩
 ·rw [add_at]; exact key i e he 0 _ rfl
 ·rw [add_at]
  exact ⟨key i e he 1 _ rfl, key i e he 2 _ rfl, key i e he 3 _ rfl, key i e he 4 _ rfl, key i e he 5 _ rfl⟩
theorem catN (base : Nat) (X : World) (v : Value) (N : List Nat) (n : Nat) (hn : N.length = n) (hown : X.ownsRow base 3 1 v n (pI N)) (nb : Nat) (c : Nat) (hc : X.cell? ⟨nb, 0, none⟩ = some (.int .i64 (c : Int))) (hb : base ≤ X.heap.size) (hl : n ≤ 100000) :
  ∃ g cap Y, (Builtin.append_ #[89, 89] 89 #[v, .slice (some ⟨nb, 0, none⟩) 1 1]).run Tryz.prog X = .ok (.slice (some ⟨g, 0, none⟩) (n + 1) cap) Y ∧ Y.ownsRow base 3 1 (.slice (some ⟨g, 0, none⟩) (n + 1) cap) (n + 1) (pI N ++ [.int .i64 (c : Int)]) ∧ X.grownBy Y v.ownBlock := by
 obtain ⟨i1, hi', hz0', hz1', hz2'⟩ := info_parts Tryz.infoInt1
 obtain ⟨g, cp, Y, hr, h2, h3, h4, h5⟩ := run_append_lies (P := Tryz.prog) X 89 89 base 3 i1 (.int .i64 0) 1 8 Tryz.underlying89 hi' hz0' hz1' hz2' rfl (by decide) v n _ hown ⟨nb, 0, none⟩ 1 1 [.int .i64 (c : Int)] rfl (fun j u hj => by
  match j, hj with
  | 0, hj => simp at hj; subst hj; simpa [Addr.add] using hc
  | j + 1, hj => simp at hj) (fun u hu => by rw [List.mem_singleton.1 hu]; rfl) (by decide) (by unfold maxLen; omega) (by omega) hb X.heap.size rfl
 exact ⟨g, cp, Y, hr, h2, h3⟩
set_option maxRecDepth 100000 in
set_option maxHeartbeats 1500000 in
theorem umap_any (C : List (List PStep)) (R : List ByteArray) (rv cv : Value) (w : World) (hR : InS w R rv) (hC : InC w C cv) (hg : Glob w) (hl : C.length = R.length) (hn : R.length ≤ 5000) (hs : ∀ c ∈ R, c.size ≤ 1000000) (hcn : ∀ p ∈ C, AllCn p) (hok : ∀ p ∈ C, ∀ s ∈ p, OkS s) (hlen : ∀ p ∈ C, p.length ≤ 1000) :
  Calls Tryz.prog 41 #[rv, cv] w (MapP C R w) := by
 obtain ⟨a, ⟨o, cap, rfl, h1, h2, h3⟩, hk⟩ := hR
 obtain ⟨ac, ⟨oc, capc, rfl, hc1, hc2, hc3⟩, hck⟩ := hC
 unfold maxLen at h2 hc2
 have HK := hid hk
 have HCK := hid hck
 have HSS := hid hs
 have HG := hid hg
 have H3 := hid h3
 have HC3 := hid hc3
 have HCN := hid hcn
 have HOK := hid hok
 have HLEN := hid hlen
 obtain ⟨n, hnn⟩ : ∃ n, R.length = n := ⟨_, rfl⟩
 have HN := hid hnn
 have HNC := hid hl
 rw [hl] at hc1
 rw [hl]
 rw [hnn] at hn h1 hc1 ⊢
 clear hk hck hs hg h3 hc3 hcn hok hlen hl hnn
 go_enter Tryz.func41, Tryz.ntmps41
 go_upto_region 1 with fail
 refine cewp_gen ?_
 intro W hW
 obtain ⟨r0, hb0, hz0⟩ := rbox_of hW
 have R0 := hid r0
 have HB0 := hid hb0
 have HZ0 := hid hz0
 clear hW r0 hb0 hz0
 go_upto_region 2 with fail
 refine cewp_gen ?_
 intro W2 hW
 have HMA := hid (show MaS W.heap.size W W2 (.slice (some ⟨W.heap.size, 0, none⟩) 0 0) (.slice (some ⟨W.heap.size + 1, 0, none⟩) 0 0) [] [] by
  rw [hW]
  have g1 := World.ownsRow_lit (e := 43) (size := 6) (base := W.heap.size) W #[] 0 (Nat.le_refl _) (by decide) (by decide)
  have g2 := World.ownsRow_lit (e := 3) (size := 1) (base := W.heap.size) (W.alloc (.cells #[] 43)) #[] 0 (by simp) (by decide) (by decide)
  have hs : (W.alloc (.cells #[] 43)).heap.size = W.heap.size + 1 := by simp
  rw [hs] at g2
  exact ⟨valloc_bel (valloc_bel (Below.refl _ _) _) _, by simp; omega, ownsRow_below g1 (valloc_bel (Below.refl _ _) _), g2, fun e he => by simp at he⟩)
 clear hW
 go_wp2_with fail
 go_loopw [7, 8, 20] (fun lv nv i wr => ∃ (j : Nat) (E : List LE) (N : List Nat), i = .int .i64 j ∧ j ≤ n ∧ Hid (MaS W.heap.size W wr lv nv E N) ∧ Hid (E.map LE.pt = lvU C R j) ∧ Hid (N = nvU R j) ∧ Hid (∀ k, k < j → badC R k = 0)) (fun _ _ i _ => n - (intOf i).toNat)
 case atStart => exact ⟨0, [], [], rfl, Nat.zero_le _, HMA, hid rfl, hid rfl, hid (fun k h => absurd h (Nat.not_lt_zero k))⟩
 case round =>
  clear HMA
  obtain ⟨j, E, N, rfl, hj, HMA, HEM, HNM, HBD⟩ := hrel
  have hElen : E.length ≤ j := by have h := congrArg List.length HEM.out; rw [List.length_map] at h; have := lvU_le C R j; omega
  have hNlen : N.length ≤ j := by rw [HNM.out]; unfold nvU; have := List.length_filterMap_le (nuU R) (List.range j); rwa [List.length_range] at this
  have HBW := hid (show Below w.heap.size w wr from vonto HB0.out HMA.out.bel)
  have R2 := hid (R0.out.onto (HMA.out.bel.block _ R0.out.lt))
  by_cases hlt : j < n
  ·obtain ⟨c, hc⟩ : ∃ c, R[j]? = some c := ⟨R[j]'(by rw [HN.out]; exact hlt), List.getElem?_eq_getElem _⟩
   obtain ⟨p, hp⟩ : ∃ p, C[j]? = some p := ⟨C[j]'(by rw [HNC.out, HN.out]; exact hlt), List.getElem?_eq_getElem _⟩
   obtain rfl := H3.out (by rw [HN.out]; omega)
   obtain rfl := HC3.out (by rw [HNC.out, HN.out]; omega)
   have k0 := keepCell HBW.out (HK.out j c hc).1
   obtain ⟨u, hu, hip⟩ := HCK.out j p hp
   obtain ⟨oup, cup, rfl⟩ := inp_slice hip
   have HIP := hid (hip.onto HB0.out)
   obtain ⟨np, hnp⟩ : ∃ k, p.length = k := ⟨_, rfl⟩
   rw [hnp] at hu HIP
   have hu := keepCell HBW.out hu
   have CV := hid (cevalue_any c wr (HG.out.on HBW.out) (HSS.out c (List.mem_of_getElem? hc)))
   have HC := hid hc
   have HP := hid hp
   clear hc hp hip hnp
   rw [show celT c.data.toList = (trC c, cdC c) from rfl] at CV
   go_wp2_with fail
   go_at_call 81
   refine CV.out.mono ?_
   rintro e w1 ⟨X, Y, rfl, hhv, hb1⟩
   obtain ⟨hbr1, hbr2⟩ := cel_bare c
   have HBR1 := hid hbr1
   have HBR2 := hid hbr2
   obtain ⟨T, hT⟩ : ∃ T, trC c = T := ⟨_, rfl⟩
   obtain ⟨kd, hkd⟩ : ∃ k, cdC c = k := ⟨_, rfl⟩
   have HT := hid hT
   have HKD := hid hkd
   rw [hT] at hhv HBR1 HBR2
   obtain ⟨ox, nx0, cx, oy, ny, cy, rfl, rfl⟩ := hv_slices hhv
   have HHV := hid hhv
   have HM1 := hid (HMA.out.onto hb1)
   have hu := keepCell hb1 hu
   have R3 := hid (R2.out.onto (hb1.block _ R2.out.lt))
   clear hhv hb1 CV hbr1 hbr2 k0 R2 HBW
   rw [hT, hkd]
   clear hT hkd
   simp only [vv]
   go_upto_region 6 with fail
   refine cewp_gen ?_
   intro W3 hW
   have hb3 : Below w1.heap.size w1 W3 := by rw [hW]; exact valloc_bel (Below.refl _ _) _
   have v0 : W3.cell? ⟨w1.heap.size, 0, none⟩ = some (.int .i64 T.kd) := by rw [hW]; simp
   have v1 : W3.cell? ⟨w1.heap.size, 1, none⟩ = some (.int .i64 T.nm) := by rw [hW]; simp
   have v2 : W3.cell? ⟨w1.heap.size, 2, none⟩ = some (.string T.st) := by rw [hW]; simp
   have v3 : W3.cell? ⟨w1.heap.size, 3, none⟩ = some (.slice ox nx0 cx) := by rw [hW]; simp
   have v4 : W3.cell? ⟨w1.heap.size, 4, none⟩ = some (.slice oy ny cy) := by rw [hW]; simp
   have hbx : W3.heap[w1.heap.size]? = some (.cells #[.int .i64 T.kd, .int .i64 T.nm, .string T.st, .slice ox nx0 cx, .slice oy ny cy] 29 (0, 0)) := by rw [hW]; simp only [World.alloc, Array.getElem?_push_size]
   have HBX := hid hbx
   have HM3 := hid (HM1.out.onto hb3)
   have R9 := hid (R3.out.onto (hb3.block _ R3.out.lt))
   have hu := keepCell hb3 hu
   have HB9 := hid (show Below w.heap.size w W3 from vonto HB0.out HM3.out.bel)
   clear hW hb3 hbx HM1 R3
   by_cases h9 : kd = 9
   ·subst h9
    have HLV := hid (show lvU C R (j + 1) = lvU C R j by rw [lvU_more]; unfold lfU; rw [HC.out, HP.out]; simp only; rw [if_pos HKD.out]; simp)
    have HNV := hid (show nvU R (j + 1) = nvU R j by rw [nvU_more]; unfold nuU; rw [HC.out]; simp only; rw [if_pos HKD.out]; simp)
    have HBD2 := hid (show ∀ k, k < j + 1 → badC R k = 0 from fun k hk => by
     by_cases hkj : k = j
     ·subst hkj; unfold badC; rw [HC.out]; simp only; rw [if_pos HKD.out]
     ·exact HBD.out k (by omega))
    go_wp2_with fail
    go_roundw
    case rel => exact ⟨j + 1, E, N, val_int (by omega), hlt, HM3, hid (by rw [HEM.out, HLV.out]), hid (by rw [HNM.out, HNV.out]), HBD2⟩
    case measure => simp [intOf]; omega
   ·have t9 : (kd == 9) = false := by simpa using h9
    by_cases h0 : kd = 0
    ·subst h0
     have hlf : lfU C R j = some (p, T) := by unfold lfU; rw [HC.out, HP.out]; simp only; rw [if_neg (by rw [HKD.out]; decide), HT.out]
     have HLV := hid (show lvU C R (j + 1) = lvU C R j ++ [(p, T)] by rw [lvU_more, hlf]; rfl)
     have HNV := hid (show nvU R (j + 1) = nvU R j ++ [j + 1] by rw [nvU_more]; unfold nuU; rw [HC.out]; simp only; rw [if_neg (by rw [HKD.out]; decide)]; rfl)
     have HBD2 := hid (show ∀ k, k < j + 1 → badC R k = 0 from fun k hk => by
      by_cases hkj : k = j
      ·subst hkj; unfold badC; rw [HC.out]; simp only; rw [if_neg (by rw [HKD.out]; decide), HKD.out]
      ·exact HBD.out k (by omega))
     obtain ⟨ov, cv, rfl⟩ := own_slice HM3.out.own
     obtain ⟨onv, cnv, rfl⟩ := own_slice HM3.out.nums
     obtain ⟨i1, hi', hz0', hz1', hz2'⟩ := info_parts Tryz.infoLeafU
     clear hlf h9
     go_wp2_with fail
     have hS0 : W3.drew.cell? (ac.add j) = some (.slice oup np cup) ∧ W3.drew.cell? ⟨w1.heap.size, 0, none⟩ = some (.int .i64 T.kd) ∧ W3.drew.cell? ⟨w1.heap.size, 1, none⟩ = some (.int .i64 T.nm) ∧ W3.drew.cell? ⟨w1.heap.size, 2, none⟩ = some (.string T.st) ∧ W3.drew.cell? ⟨w1.heap.size, 3, none⟩ = some (.slice ox nx0 cx) ∧ W3.drew.cell? ⟨w1.heap.size, 4, none⟩ = some (.slice oy ny cy) := ⟨hu, v0, v1, v2, v3, v4⟩
     refine wp_region_h (S := fun X => X.cell? (ac.add j) = some (.slice oup np cup) ∧ X.cell? ⟨w1.heap.size, 0, none⟩ = some (.int .i64 T.kd) ∧ X.cell? ⟨w1.heap.size, 1, none⟩ = some (.int .i64 T.nm) ∧ X.cell? ⟨w1.heap.size, 2, none⟩ = some (.string T.st) ∧ X.cell? ⟨w1.heap.size, 3, none⟩ = some (.slice ox nx0 cx) ∧ X.cell? ⟨w1.heap.size, 4, none⟩ = some (.slice oy ny cy)) 10 (by kernel_rfl) (by kernel_rfl) ?_
     refine take_h (i := 0) (v := ?_) rfl (by kernel_rfl) (by kernel_rfl) (by kernel_rfl) (fun _ _ _ h => h) (by rfl) ?_ hS0 ?_
     rotate_left
     ·(intro X hX; obtain ⟨y0, y1, y2, y3, y4, y5⟩ := hX; go_simp; try with_reducible rfl)
     try simp only [Act.put, List.setIfInBounds_toArray, List.set_cons_zero, List.set_cons_succ]
     refine take_h (i := 1) (v := ?_) rfl (by kernel_rfl) (by kernel_rfl) (by kernel_rfl) (fun _ _ _ h => h) (by rfl) ?_ hS0 ?_
     rotate_left
     ·(intro X hX; obtain ⟨y0, y1, y2, y3, y4, y5⟩ := hX; go_simp; try with_reducible rfl)
     try simp only [Act.put, List.setIfInBounds_toArray, List.set_cons_zero, List.set_cons_succ]
     refine take_h (i := 2) (v := ?_) rfl (by kernel_rfl) (by kernel_rfl) (by kernel_rfl) (fun _ _ _ h => h) (by rfl) ?_ hS0 ?_
     rotate_left
     ·(intro X hX; obtain ⟨y0, y1, y2, y3, y4, y5⟩ := hX; go_simp; try with_reducible rfl)
     try simp only [Act.put, List.setIfInBounds_toArray, List.set_cons_zero, List.set_cons_succ]
     refine take_h (i := 3) (v := ?_) rfl (by kernel_rfl) (by kernel_rfl) (by kernel_rfl) (fun _ _ _ h => h) (by rfl) ?_ hS0 ?_
     rotate_left
     ·(intro X hX; obtain ⟨y0, y1, y2, y3, y4, y5⟩ := hX; go_simp; try with_reducible rfl)
     try simp only [Act.put, List.setIfInBounds_toArray, List.set_cons_zero, List.set_cons_succ]
     refine take_h (i := 4) (v := ?_) rfl (by kernel_rfl) (by kernel_rfl) (by kernel_rfl) (fun _ _ _ h => h) (by rfl) ?_ hS0 ?_
     rotate_left
     ·(intro X hX; obtain ⟨y0, y1, y2, y3, y4, y5⟩ := hX; go_simp; try with_reducible rfl)
     try simp only [Act.put, List.setIfInBounds_toArray, List.set_cons_zero, List.set_cons_succ]
     refine take_h (i := 5) (v := ?_) rfl (by kernel_rfl) (by kernel_rfl) (by kernel_rfl) (fun _ _ _ h => h) (by rfl) ?_ hS0 ?_
     rotate_left
     ·(intro X hX; obtain ⟨y0, y1, y2, y3, y4, y5⟩ := hX; go_simp; try with_reducible rfl)
     try simp only [Act.put, List.setIfInBounds_toArray, List.set_cons_zero, List.set_cons_succ]
     refine take_h (i := 6) (v := ?_) rfl (by kernel_rfl) (by kernel_rfl) (by kernel_rfl) (fun _ _ _ h => h) (by rfl) ?_ hS0 ?_
     rotate_left
     ·(intro X hX; obtain ⟨y0, y1, y2, y3, y4, y5⟩ := hX; go_simp; try with_reducible rfl)
     try simp only [Act.put, List.setIfInBounds_toArray, List.set_cons_zero, List.set_cons_succ]
     refine step_h (i := 7) rfl (by kernel_rfl) ?_
     intro KK hKK
     go_simp
     have hbA : Below W3.heap.size W3 (W3.drew.alloc (.cells #[.slice oup np cup, .int .i64 T.kd, .int .i64 T.nm, .string T.st, .slice ox nx0 cx, .slice oy ny cy] 43)) := vonto (Below.refl W3.heap.size W3).drew (valloc_bel (Below.refl _ _) _)
     refine hKK.out _ _ ⟨keepCell hbA hu, keepCell hbA v0, keepCell hbA v1, keepCell hbA v2, keepCell hbA v3, keepCell hbA v4⟩ (fun hS2 => ?_)
     clear hKK KK hS0
     refine step_h (i := 8) rfl (by kernel_rfl) ?_
     intro KK hKK
     have hMA := HM3.out.onto hbA
     refine step_append_lies _ (by rfl) _ _ _ (by rfl) W.heap.size 43 i1 (.agg #[.slice none 0 0, .int .i64 0, .int .i64 0, .string ⟨#[]⟩, .slice none 0 0, .slice none 0 0]) 6 104 Tryz.underlying38 hi' hz0' hz1' hz2' rfl (by decide) _ E.length _ (by rfl) hMA.own ⟨W3.drew.heap.size, 0, none⟩ 1 1 (lcE ⟨p, T, .slice oup np cup, .slice ox nx0 cx, .slice oy ny cy⟩) (by rfl) rfl (new_cells W3.drew _ 43) (by intro u' hu'; simp only [lcE, List.mem_cons, List.not_mem_nil, or_false] at hu'; rcases hu' with rfl | rfl | rfl | rfl | rfl | rfl <;> rfl) (by decide) (by unfold maxLen; omega) (by omega) hMA.lo (W3.drew.heap.size + 1) (by simp) ?_
     intro g9 cap9 w9 hown9 hgr9 hat9 hlt9
     have HM9 := hid (hMA.leaf ⟨p, T, .slice oup np cup, .slice ox nx0 cx, .slice oy ny cy⟩ ⟨HIP.out, ⟨HBR1.out, HBR2.out⟩, fun w' => bare_hv HHV.out HBR1.out HBR2.out⟩ hown9 hgr9)
     have hnb : w1.heap.size < W3.heap.size := World.block_lt_of_cell? W3 ⟨w1.heap.size, 0, none⟩ v0
     have hbx9 : w9.heap[w1.heap.size]? = W3.heap[w1.heap.size]? := (hgr9.block w1.heap.size (Nat.lt_of_lt_of_le hnb hbA.size) (off_ne (own_off hMA.own (by rw [hbA.block _ hnb]; exact HBX.out) (by decide)))).trans (hbA.block _ hnb)
     have hcb : w9.cell? (ac.add j) = some (.slice oup np cup) := by
      have hb0 : (ac.add j).block < W.heap.size := by
       obtain ⟨u', hu', -⟩ := HCK.out j p HP.out
       exact World.block_lt_of_cell? W _ (keepCell HB0.out hu')
      have := HM9.out.bel.cell (p := ac.add j) hb0
      rw [this]
      obtain ⟨u', hu', -⟩ := HCK.out j p HP.out
      have h1 := HM3.out.bel.cell (p := ac.add j) hb0
      rw [← h1]; exact hu
     refine hKK.out _ _ ⟨hcb, (World.cell?_of_block (a := ⟨w1.heap.size, 0, none⟩) hbx9).trans v0, (World.cell?_of_block (a := ⟨w1.heap.size, 1, none⟩) hbx9).trans v1, (World.cell?_of_block (a := ⟨w1.heap.size, 2, none⟩) hbx9).trans v2, (World.cell?_of_block (a := ⟨w1.heap.size, 3, none⟩) hbx9).trans v3, (World.cell?_of_block (a := ⟨w1.heap.size, 4, none⟩) hbx9).trans v4⟩ (fun hS3 => ?_)
     clear hKK KK hS2
     try simp only [Act.put, List.setIfInBounds_toArray, List.set_cons_zero, List.set_cons_succ]
     refine take_h (i := 9) (v := ?_) rfl (by kernel_rfl) (by kernel_rfl) (by kernel_rfl) (fun _ _ _ h => h) (by rfl) ?_ hS3 ?_
     rotate_left
     ·(intro X hX; obtain ⟨y0, y1, y2, y3, y4, y5⟩ := hX; go_simp; try with_reducible rfl)
     try simp only [Act.put, List.setIfInBounds_toArray, List.set_cons_zero, List.set_cons_succ]
     refine wpAnyH_done (by kernel_rfl) ?_ _
     have HEL := hid (show (E ++ [(⟨p, T, .slice oup np cup, .slice ox nx0 cx, .slice oy ny cy⟩ : LE)]).map LE.pt = lvU C R (j + 1) by rw [List.map_append, HEM.out, HLV.out]; rfl)
     have hml : (E ++ [(⟨p, T, .slice oup np cup, .slice ox nx0 cx, .slice oy ny cy⟩ : LE)]).length = E.length + 1 := by simp
     clear hS3 hbx9 hcb hgr9 hown9 hat9 hlt9 hMA hbA hi' hz0' hz1' hz2' v0 v1 v2 v3 v4 hu HIP
     obtain ⟨E2, hE2⟩ : ∃ E2, E ++ [(⟨p, T, .slice oup np cup, .slice ox nx0 cx, .slice oy ny cy⟩ : LE)] = E2 := ⟨_, rfl⟩
     rw [hE2] at HM9 HEL hml
     clear hE2 hml
     have hMB := HM9.out.onto (valloc_bel (Below.refl w9.heap.size w9) (.cells #[.int .i64 ((j + 1 : Nat) : Int)] 3))
     obtain ⟨g7, cap7, Y7, hr7, hown7, hgr7⟩ := catN W.heap.size _ (.slice onv N.length cnv) N N.length rfl hMB.nums w9.heap.size (j + 1) (by simp) hMB.lo (by omega)
     have HM7 := hid (hMB.num (j + 1) hown7 hgr7)
     have HNV2 := hid (show N ++ [j + 1] = nvU R (j + 1) by rw [HNV.out, HNM.out])
     push_cast at hr7
     clear hMB hown7 hgr7
     go_wp2_with (at_builtin; go_must (refine Lib.wpList_append_run _ rfl _ _ _ _ rfl _ _ rfl rfl _ Y7 hr7 ?_))
     go_roundw
     case rel => exact ⟨j + 1, E2, _, val_int (by omega), hlt, HM7, HEL, HNV2, HBD2⟩
     case measure => simp [intOf]; omega
    ·have t0 : (kd != 0) = true := by simpa using h0
     have hb : badC R j = kd := by unfold badC; rw [HC.out]; simp only; rw [if_neg (by rw [HKD.out]; exact h9), HKD.out]
     have HMP := hid (show MP C R kd (j + 1) zeroT by
      rw [← hb]; exact .bad j HBD.out (by rw [hb]; exact h0))
     clear hb h0 h9 v0 v1 v2 v3 v4 hu
     obtain ⟨u0, e0⟩ := R9.out.cell (o := 0) (by decide)
     obtain ⟨u1, e1⟩ := R9.out.cell (o := 1) (by decide)
     obtain ⟨u2, e2⟩ := R9.out.cell (o := 2) (by decide)
     obtain ⟨u3, e3⟩ := R9.out.cell (o := 3) (by decide)
     obtain ⟨u4, e4⟩ := R9.out.cell (o := 4) (by decide)
     have z0 := R9.out.frozen
     go_wp2_with fail
     refine bodyPost_ret (v := .tuple #[vv zeroT (.slice none 0 0) (.slice none 0 0), .int .i64 kd, .int .i64 ((j + 1 : Nat) : Int)]) (by simp [results, Tryz.results41, go_sem, vv, zeroT, VT.kd, VT.nm, VT.st, e0, e1, e2, e3, e4]) rfl ?_
     exact ⟨zeroT, _, _, _, _, rfl, HMP.out, hs_zero _ _, put5_bel HB9.out (Nat.le_refl _)⟩
  ·have hjn : j = n := by omega
   subst hjn
   have HBAD := hid (show ∀ k, badC R k = 0 from fun k => by
    rcases Nat.lt_or_ge k j with h | h
    ·exact HBD.out k h
    ·unfold badC; rw [List.getElem?_eq_none (by rw [HN.out]; exact h)])
   obtain ⟨ov, cv, rfl⟩ := own_slice HMA.out.own
   obtain ⟨onv, cnv, hnv⟩ := own_slice HMA.out.nums
   subst hnv
   have hEl : E.length = (lvU C R j).length := by rw [← HEM.out, List.length_map]
   have R9 := R2
   by_cases hE0 : E.length = 0
   ·have HMP := hid (show MP C R 8 0 zeroT from .none HBAD.out (by rw [HN.out]; exact List.eq_nil_of_length_eq_zero (by omega)))
    rw [hE0]
    have HB9 := HBW
    clear hEl
    obtain ⟨u0, e0⟩ := R9.out.cell (o := 0) (by decide)
    obtain ⟨u1, e1⟩ := R9.out.cell (o := 1) (by decide)
    obtain ⟨u2, e2⟩ := R9.out.cell (o := 2) (by decide)
    obtain ⟨u3, e3⟩ := R9.out.cell (o := 3) (by decide)
    obtain ⟨u4, e4⟩ := R9.out.cell (o := 4) (by decide)
    have z0 := R9.out.frozen
    go_wp2_with fail
    refine bodyPost_ret (v := .tuple #[vv zeroT (.slice none 0 0) (.slice none 0 0), .int .i64 8, .int .i64 ((0 : Nat) : Int)]) (by simp [results, Tryz.results41, go_sem, vv, zeroT, VT.kd, VT.nm, VT.st, e0, e1, e2, e3, e4]) rfl ?_
    exact ⟨zeroT, _, _, _, _, rfl, HMP.out, hs_zero _ _, put5_bel HB9.out (Nat.le_refl _)⟩
   ·have tE : ((E.length : Int) == 0) = false := by rw [beq_eq_false_iff_ne]; omega
    have HNE := hid (show lvU C R R.length ≠ [] from fun e => hE0 (by rw [hEl, ← HN.out, e]; rfl))
    have HIL := hid (show InLf wr (lvU C R j) (.slice ov E.length cv) by have := HMA.out.inlf; rwa [HEM.out] at this)
    have CB := hid (build_any (lvU C R j) (.slice ov E.length cv) wr HIL.out (HG.out.on HBW.out) (fun e he => by obtain ⟨i, c, h1, -⟩ := lvU_mem he; exact HCN.out _ (List.mem_of_getElem? h1)) (fun e he => by obtain ⟨i, c, h1, -⟩ := lvU_mem he; exact HOK.out _ (List.mem_of_getElem? h1)) (by have := lvU_le C R j; omega) (fun e he => by obtain ⟨i, c, h1, -⟩ := lvU_mem he; exact HLEN.out _ (List.mem_of_getElem? h1)))
    clear hEl hE0
    go_wp2_with fail
    go_at_call 20
    refine CB.out.mono ?_
    rintro e w4 ⟨T, x, y, k, i, rfl, hbp, hhv, hb4⟩
    obtain ⟨ox, nx0, cx, oy, ny, cy, rfl, rfl⟩ := hv_slices hhv.hv
    have HBP := hid hbp
    have HHV := hid hhv
    have HN4 := hid (show w.heap.size < wr.heap.size from R9.out.lt)
    have R4 := hid (R9.out.onto (hb4.block _ R9.out.lt))
    have HM4 := hid (HMA.out.onto hb4)
    clear hbp hhv hb4 CB R9 R2
    obtain ⟨K4, hK4⟩ : ∃ K4, T.kd = K4 := ⟨_, rfl⟩
    simp only [vv]
    go_upto_region 15 with fail
    refine cewp_gen ?_
    intro W5 hW
    have hb5 : Below w4.heap.size w4 W5 := by rw [hW]; exact valloc_bel (Below.refl _ _) _
    have v0 : W5.cell? ⟨w4.heap.size, 0, none⟩ = some (.int .i64 K4) := by rw [hW]; simp
    have v1 : W5.cell? ⟨w4.heap.size, 1, none⟩ = some (.int .i64 T.nm) := by rw [hW]; simp
    have v2 : W5.cell? ⟨w4.heap.size, 2, none⟩ = some (.string T.st) := by rw [hW]; simp
    have v3 : W5.cell? ⟨w4.heap.size, 3, none⟩ = some (.slice ox nx0 cx) := by rw [hW]; simp
    have v4 : W5.cell? ⟨w4.heap.size, 4, none⟩ = some (.slice oy ny cy) := by rw [hW]; simp
    have HM5 := hid (HM4.out.onto hb5)
    have R9 := hid (R4.out.onto (hb5.block _ R4.out.lt))
    have HHV5 := hid (HHV.out.onto (S' := fun k => wr.heap.size ≤ k ∧ k < W5.heap.size) (fun k hk => hb5.block k hk.2) (fun k hk => ⟨hk.1, Nat.lt_of_lt_of_le hk.2 hb5.size⟩))
    have HB9 := hid (show Below w.heap.size w W5 from vonto HB0.out HM5.out.bel)
    have HK4 := hid hK4
    clear hW hb5 hK4
    by_cases hk0 : k = 0
    ·subst hk0
     obtain rfl : i = 0 := HBP.out.zero
     by_cases h6 : K4 = 6
     ·have HMP := hid (show MP C R 0 0 T from .ok T HBAD.out HNE.out (by rw [HN.out]; exact HBP.out) (HK4.out.trans h6))
      have t6 : (K4 != 6) = false := by simpa using h6
      have HVZ := hid (fun (v0 v1 v2 v3 v4 : Value) => (show HS (put5 W5 w.heap.size 0 v0 v1 v2 v3 v4) (fun k => w.heap.size ≤ k ∧ k < (put5 W5 w.heap.size 0 v0 v1 v2 v3 v4).heap.size) T (.slice ox nx0 cx) (.slice oy ny cy) from HHV5.out.onto (fun k hk => put5_heap W5 w.heap.size 0 v0 v1 v2 v3 v4 k (by have := hk.1; have := HN4.out; omega)) (fun k hk => ⟨by have := hk.1; have := HN4.out; omega, by rw [put5_size]; exact hk.2⟩)))
      have HK6 := hid (HK4.out.symm)
      obtain ⟨u0, e0⟩ := R9.out.cell (o := 0) (by decide)
      obtain ⟨u1, e1⟩ := R9.out.cell (o := 1) (by decide)
      obtain ⟨u2, e2⟩ := R9.out.cell (o := 2) (by decide)
      obtain ⟨u3, e3⟩ := R9.out.cell (o := 3) (by decide)
      obtain ⟨u4, e4⟩ := R9.out.cell (o := 4) (by decide)
      have z0 := R9.out.frozen
      have H6 := hid h6
      clear h6
      go_wp2_with fail
      refine bodyPost_ret (v := .tuple #[vv T (.slice ox nx0 cx) (.slice oy ny cy), .int .i64 0, .int .i64 ((0 : Nat) : Int)]) (by simp [results, Tryz.results41, go_sem, vv, e0, e1, e2, e3, e4, HK4.out]) rfl ?_
      exact ⟨T, _, _, 0, 0, rfl, HMP.out, HVZ.out _ _ _ _ _, put5_bel HB9.out (Nat.le_refl _)⟩
     ·have HMP := hid (show MP C R 8 0 zeroT from .nomap T HBAD.out HNE.out (by rw [HN.out]; exact HBP.out) (by rw [HK4.out]; exact h6))
      have t6 : (K4 != 6) = true := by simpa using h6
      clear h6
      obtain ⟨u0, e0⟩ := R9.out.cell (o := 0) (by decide)
      obtain ⟨u1, e1⟩ := R9.out.cell (o := 1) (by decide)
      obtain ⟨u2, e2⟩ := R9.out.cell (o := 2) (by decide)
      obtain ⟨u3, e3⟩ := R9.out.cell (o := 3) (by decide)
      obtain ⟨u4, e4⟩ := R9.out.cell (o := 4) (by decide)
      have z0 := R9.out.frozen
      go_wp2_with fail
      refine bodyPost_ret (v := .tuple #[vv zeroT (.slice none 0 0) (.slice none 0 0), .int .i64 8, .int .i64 ((0 : Nat) : Int)]) (by simp [results, Tryz.results41, go_sem, vv, zeroT, VT.kd, VT.nm, VT.st, e0, e1, e2, e3, e4]) rfl ?_
      exact ⟨zeroT, _, _, _, _, rfl, HMP.out, hs_zero _ _, put5_bel HB9.out (Nat.le_refl _)⟩
    ·have hi := HBP.out.fault_ix hk0 (by rw [← HN.out]; exact HNE.out)
     obtain ⟨cc, hcc⟩ : ∃ cc, N[i]? = some cc := ⟨N[i]'(by rw [HNM.out, nvU_len C R (by rw [HNC.out]) j (by rw [HN.out]; exact Nat.le_refl _)]; exact hi), List.getElem?_eq_getElem _⟩
     have hil := lt_of_some hcc
     have HMP := hid (show MP C R k cc zeroT from .fault k i T cc HBAD.out HNE.out (by rw [HN.out]; exact HBP.out) hk0 (by rw [HN.out, ← HNM.out]; exact hcc))
     have tk0 : (k != 0) = true := by simpa using hk0
     obtain ⟨an, on, cn, ev, n1, n2, n3, n4⟩ := (own_ini HM5.out.nums).sl
     injection ev with ev1 ev2 ev3
     subst ev1 ev3
     obtain rfl := n3 (by omega)
     have hnc := n4 i cc hcc
     have hne : ¬ an.block = w.heap.size := fun e => by
      have := HM5.out.nums
      rcases this.2 with ⟨e1, -⟩ | ⟨g, cap', cur, e1, hg, -⟩
      ·cases e1
      ·injection e1 with e1
       injection e1 with e1
       rw [e1] at e
       have : g = w.heap.size := e
       have := HZ0.out
       omega
     clear hk0 ev2 n1 n2 n3 n4 hi hcc
     obtain ⟨u0, e0⟩ := R9.out.cell (o := 0) (by decide)
     obtain ⟨u1, e1⟩ := R9.out.cell (o := 1) (by decide)
     obtain ⟨u2, e2⟩ := R9.out.cell (o := 2) (by decide)
     obtain ⟨u3, e3⟩ := R9.out.cell (o := 3) (by decide)
     obtain ⟨u4, e4⟩ := R9.out.cell (o := 4) (by decide)
     have z0 := R9.out.frozen
     go_wp2_with fail
     have hS0 : W5.drew.cell? (an.add i) = some (.int .i64 (cc : Int)) := hnc
     refine wp_region_h (S := fun X => X.cell? (an.add i) = some (.int .i64 (cc : Int))) 9 (by kernel_rfl) (by kernel_rfl) ?_
     refine take_h (i := 0) (v := ?_) rfl (by kernel_rfl) (by kernel_rfl) (by kernel_rfl) (fun _ _ _ h => h) (by rfl) ?_ hS0 ?_
     rotate_left
     ·(intro X hX; go_simp; try with_reducible rfl)
     try simp only [Act.put, List.setIfInBounds_toArray, List.set_cons_zero, List.set_cons_succ]
     refine take_h (i := 1) (v := ?_) rfl (by kernel_rfl) (by kernel_rfl) (by kernel_rfl) (fun _ _ _ h => h) (by rfl) ?_ hS0 ?_
     rotate_left
     ·(intro X hX; go_simp; try with_reducible rfl)
     try simp only [Act.put, List.setIfInBounds_toArray, List.set_cons_zero, List.set_cons_succ]
     refine take_h (i := 2) (v := ?_) rfl (by kernel_rfl) (by kernel_rfl) (by kernel_rfl) (fun _ _ _ h => h) (by rfl) ?_ hS0 ?_
     rotate_left
     ·(intro X hX; go_simp; try with_reducible rfl)
     try simp only [Act.put, List.setIfInBounds_toArray, List.set_cons_zero, List.set_cons_succ]
     refine take_h (i := 3) (v := ?_) rfl (by kernel_rfl) (by kernel_rfl) (by kernel_rfl) (fun _ _ _ h => h) (by rfl) ?_ hS0 ?_
     rotate_left
     ·(intro X hX; go_simp; try with_reducible rfl)
     try simp only [Act.put, List.setIfInBounds_toArray, List.set_cons_zero, List.set_cons_succ]
     refine take_h (i := 4) (v := ?_) rfl (by kernel_rfl) (by kernel_rfl) (by kernel_rfl) (fun _ _ _ h => h) (by rfl) ?_ hS0 ?_
     rotate_left
     ·(intro X hX; go_simp; try with_reducible rfl)
     try simp only [Act.put, List.setIfInBounds_toArray, List.set_cons_zero, List.set_cons_succ]
     refine take_h (i := 5) (v := ?_) rfl (by kernel_rfl) (by kernel_rfl) (by kernel_rfl) (fun _ _ _ h => h) (by rfl) ?_ hS0 ?_
     rotate_left
     ·(intro X hX; go_simp; try with_reducible rfl)
     try simp only [Act.put, List.setIfInBounds_toArray, List.set_cons_zero, List.set_cons_succ]
     refine step_h (i := 6) rfl (by kernel_rfl) ?_
     intro KK hKK
     go_simp
     obtain ⟨P5, hP5⟩ : ∃ P5, put5 W5 w.heap.size 0 (.int .i64 0) (.int .i64 0) (.string ⟨#[]⟩) (.slice none 0 0) (.slice none 0 0) = P5 := ⟨_, rfl⟩
     have hnode : Node P5 ⟨w.heap.size, 0, none⟩ zeroT (.slice none 0 0) (.slice none 0 0) := by rw [← hP5]; exact put5_node R9.out 0 (by omega) zeroT _ _
     have hput : P5.cell? (an.add i) = some (.int .i64 (cc : Int)) := by
      rw [← hP5]
      have hbk := put5_heap W5 w.heap.size 0 (.int .i64 0) (.int .i64 0) (.string ⟨#[]⟩) (.slice none 0 0) (.slice none 0 0) (an.add i).block (by rw [addr_block]; exact hne)
      exact (World.cell?_of_block hbk).trans hnc
     have HPB := hid (show Below w.heap.size w P5 by rw [← hP5]; exact put5_bel HB9.out (Nat.le_refl _))
     obtain ⟨q0, q1, q2, q3, q4⟩ := hnode
     simp only [Nat.zero_add, zeroT, VT.kd, VT.nm, VT.st] at q0 q1 q2
     simp only [Nat.zero_add] at q3 q4
     simp only [put5, Nat.zero_add] at hP5
     rw [hP5]
     have hput' : P5.drew.cell? (an.add i) = some (.int .i64 (cc : Int)) := hput
     have q0 : P5.drew.cell? ⟨w.heap.size, 0, none⟩ = some (.int .i64 0) := q0
     have q1 : P5.drew.cell? ⟨w.heap.size, 1, none⟩ = some (.int .i64 0) := q1
     have q2 : P5.drew.cell? ⟨w.heap.size, 2, none⟩ = some (.string ⟨#[]⟩) := q2
     have q3 : P5.drew.cell? ⟨w.heap.size, 3, none⟩ = some (.slice none 0 0) := q3
     have q4 : P5.drew.cell? ⟨w.heap.size, 4, none⟩ = some (.slice none 0 0) := q4
     have HPD := hid (show Below w.heap.size w P5.drew from HPB.out.drew)
     refine hKK.out _ _ hput' (fun hS1 => ?_)
     clear hKK KK hput hput' e0 e1 e2 e3 e4 z0 hS0 v0 v1 v2 v3 v4 R9 hP5 HPB
     try simp only [Act.put, List.setIfInBounds_toArray, List.set_cons_zero, List.set_cons_succ]
     generalize P5.drew = W7 at *
     refine take_h (i := 7) (v := ?_) rfl (by kernel_rfl) (by kernel_rfl) (by kernel_rfl) (fun _ _ _ h => h) (by rfl) ?_ hS1 ?_
     rotate_left
     ·(intro X hX; go_simp; try with_reducible rfl)
     try simp only [Act.put, List.setIfInBounds_toArray, List.set_cons_zero, List.set_cons_succ]
     refine take_h (i := 8) (v := ?_) rfl (by kernel_rfl) (by kernel_rfl) (by kernel_rfl) (fun _ _ _ h => h) (by rfl) ?_ hS1 ?_
     rotate_left
     ·(intro X hX; go_simp; try with_reducible rfl)
     try simp only [Act.put, List.setIfInBounds_toArray, List.set_cons_zero, List.set_cons_succ]
     refine wpAnyH_done (by kernel_rfl) ?_ _
     go_wp2_with fail
     refine bodyPost_ret (v := .tuple #[vv zeroT (.slice none 0 0) (.slice none 0 0), .int .i64 k, .int .i64 ((cc : Nat) : Int)]) (by simp [results, Tryz.results41, go_sem, vv, zeroT, VT.kd, VT.nm, VT.st, q0, q1, q2, q3, q4]) rfl ?_
     exact ⟨zeroT, _, _, _, _, rfl, HMP.out, hs_zero _ _, HPD.out⟩
end Go.Proofs.YteimbjamnfkapaaGreatDoor
