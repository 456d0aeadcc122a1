/- Plain mathematics: a text that is read as a path is that path's text. -/
import Derived.Test.YtadbeodeiijhdaaGreatDoorKUnH
import Derived.Test.YtadbeodeiijhdaaGreatDoorKPathTwo
import Derived.Test.YtadbeodeiijhdaaGreatDoorKFlF
import Derived.Test.YtadbeodeiijhdaaGreatDoorKMathFd
/- unflat's columnsOf, walked. -/
namespace Go.Proofs.YtadbeodeiijhdaaGreatDoor
open Go.RowKit Go.Maps

instance : DecidableEq ByteArray := fun a b => decidable_of_iff (a.data = b.data) ⟨fun h => by cases a; cases b; simp_all, fun h => by rw [h]⟩
theorem off_self {g k n c : Nat} (h : ¬ g = k) : (Value.slice (some ⟨g, 0, none⟩) n c).ownBlock = none ∨ (Value.slice (some ⟨g, 0, none⟩) n c).ownBlock ≠ some k := .inr (fun e => h (by injection e))
def prsN (c : ByteArray) : Option (List PStep) := parseP (47 :: c.data.toList)
def hasN (K : List ByteArray) (c : ByteArray) : Bool := K.any fun d => decide (d = c)
theorem hasN_iff {K : List ByteArray} {c : ByteArray} : hasN K c = true ↔ c ∈ K := by
  unfold hasN
  rw [List.any_eq_true]
  constructor
  · rintro ⟨d, h1, h2⟩
    rw [decide_eq_true_iff] at h2
    rw [← h2]; exact h1
  · exact fun h => ⟨c, h, decide_eq_true rfl⟩
/-- what is wrong with a name, seen with those ahead -/
def badN (K : List ByteArray) (i : Nat) : Int := match K[i]? with
  | none => 0
  | some c => match prsN c with
    | none => 4
    | some _ => if hasN (K.take i) c = true then 5 else 0
inductive CP (K : List ByteArray) : Int → Nat → List (List PStep) → Prop
  | bad (i : Nat) (h1 : ∀ k, k < i → badN K k = 0) (h2 : badN K i ≠ 0) (h3 : i < K.length) : CP K (badN K i) (i + 1) []
  | ok (C : List (List PStep)) (h1 : ∀ k, badN K k = 0) (h2 : K.map prsN = C.map some) : CP K 0 0 C
def ColP (K : List ByteArray) (w : World) (e : Ending) (w' : World) : Prop := ∃ v k i C, e = .returned (.tuple #[v, .int .i64 k, .int .i64 ((i : Nat) : Int)]) ∧ CP K k i C ∧ InC w' C v ∧ Below w.heap.size w w'
theorem InP.far {w w' : World} {q : List PStep} {v : Value} (h : InP w q v) (hk : ∀ (a : Addr) (u : Value), w.cell? a = some u → (∀ o n c, u ≠ .slice o n c) → w'.cell? a = some u) : InP w' q v := by
  obtain ⟨a, h1, h2⟩ := h
  exact ⟨a, h1, fun i s hs => ⟨hk _ _ (h2 i s hs).1 (by intros; intro e; cases e), hk _ _ (h2 i s hs).2.1 (by intros; intro e; cases e), hk _ _ (h2 i s hs).2.2.1 (by intros; intro e; cases e), (h2 i s hs).2.2.2⟩⟩
theorem Tryz.madeCo (n : Nat) (h : n ≤ 1000001) (w : World) : (Instr.makeSlice 79 (.int .i64 (n : Int)) (.int .i64 (n : Int))).run Tryz.prog w = .ok (.slice (some ⟨w.heap.size, 0, none⟩) n n) (w.alloc (.cells (madeCells #[.slice none 0 0] n) 35)) := by
  obtain ⟨i, hi, hz⟩ := Option.map_eq_some_iff.1 (show (Tryz.prog.info? 35).map (fun i => (i.zero, i.size, i.bytes)) = some (some (.slice none 0 0), 1, 24) by kernel_rfl)
  simp only [Prod.mk.injEq] at hz
  obtain ⟨hz, hs, hb⟩ := hz
  have := run_make (P := Tryz.prog) w 79 35 i _ Tryz.underlying79 hi hz .i64 .i64 n n (by omega) (Int.le_refl _) (by rw [hb]; omega) (by omega)
  rw [hs] at this
  simp only [Int.toNat_natCast, Nat.mul_one] at this
  exact this
abbrev stL : ByteArray → Lit := fun s => .string s.data.toList
/-- columns being read -/
structure CoS (w wr : World) (n : Nat) (K : List ByteArray) (j : Nat) (U : List Value) (Q : List (List PStep)) (L : List (ByteArray × Nat)) : Prop where
  bel : Below w.heap.size w wr
  own : wr.ownsRow w.heap.size 35 1 (.slice (some ⟨w.heap.size, 0, none⟩) n n) n U
  sl : ∀ u ∈ U, ∃ o a c, u = .slice o a c
  inp : ∀ (i : Nat) (p : List PStep), Q[i]? = some p → ∃ u, U[i]? = some u ∧ InP wr p u
  ql : Q.length = j
  mp : MpM wr 9 stL (w.heap.size + 1) L
  mo : ∀ e ∈ L, e.1.size ≤ 1000000
  ml : L.length = j
  see : ∀ c, (mpF L c = none ∧ c ∉ K.take j) ∨ (∃ v, mpF L c = some v ∧ 0 < v ∧ v ≤ n ∧ c ∈ K.take j)
theorem CoS.onto {w wr w' : World} {n : Nat} {K : List ByteArray} {j : Nat} {U : List Value} {Q : List (List PStep)} {L : List (ByteArray × Nat)} (h : CoS w wr n K j U Q L) (hb : Below wr.heap.size wr w') : CoS w w' n K j U Q L :=
  ⟨vonto h.bel hb, ownsRow_below h.own hb, h.sl, fun i p hp => by obtain ⟨u, h1, h2⟩ := h.inp i p hp; exact ⟨u, h1, h2.onto hb⟩, h.ql, h.mp.kept (hb.block _ h.mp.lt), h.mo, h.ml, h.see⟩
theorem cell_map {w : World} {k : TypeId} {lit : ByteArray → Lit} {m : Nat} {L : List (ByteArray × Nat)} (h : MpM w k lit m L) {a : Addr} {u : Value} (hu : w.cell? a = some u) : a.block ≠ m := by
  obtain ⟨es, c, h1, -⟩ := h
  intro e
  simp only [World.cell?] at hu
  rw [e, h1] at hu
  cases hu
theorem far_map {w w' : World} {m : Nat} (hm : ∀ a u, w.cell? a = some u → a.block ≠ m) (hg : w.grownBy w' (some m)) : ∀ (a : Addr) (u : Value), w.cell? a = some u → w'.cell? a = some u := fun a u hu => by
  have hne := hm a u hu
  have hlt := World.block_lt_of_cell? w a hu
  rw [World.cell?_of_block (hg.block a.block hlt (fun e => hne (by injection e)))]
  exact hu
theorem CoS.more {w wr w1 : World} {n : Nat} {K : List ByteArray} {j : Nat} {U : List Value} {Q : List (List PStep)} {L : List (ByteArray × Nat)} (h : CoS w wr n K j U Q L) (hj : j < n) {c : ByteArray} (hc : K[j]? = some c) (hcs : c.size ≤ 1000000) {p : List PStep} {v : Value} (hp : InP wr p v) (hv : ∃ o a c, v = .slice o a c) (hM : MpM w1 9 stL (w.heap.size + 1) ((c, j + 1) :: L)) (hg : wr.grownBy w1 (some (w.heap.size + 1))) :
    CoS w (w1.setCell ⟨w.heap.size, j, none⟩ v) n K (j + 1) (U.set j v) (Q ++ [p]) ((c, j + 1) :: L) := by
  have hl : U.length = n := by have := h.own.1; omega
  have hown1 := h.own.kept hg (off_self (by omega))
  have fk := far_map (fun a u => cell_map h.mp) hg
  have hs1 := hg.size
  have hlo := h.bel.size
  have fs : ∀ (a : Addr) (u : Value), wr.cell? a = some u → (∀ o n c, u ≠ .slice o n c) → (w1.setCell ⟨w.heap.size, j, none⟩ v).cell? a = some u := fun a u hu hns => by
    have h1 := fk a u hu
    rw [World.cell?_setCell_other _ _ _ _ (fun e => ?_)]
    · exact h1
    · rw [← e] at h1
      have h2 : w1.cell? ⟨w.heap.size, j, none⟩ = U[j]? := hown1.cellAt j (by omega)
      rw [h2] at h1
      obtain ⟨o, a', c', e2⟩ := h.sl u (List.mem_of_getElem? h1)
      exact hns o a' c' e2
  refine ⟨vset_bel (h.bel.grown hg hlo (fun k hk => by injection hk with hk; omega)) (Nat.le_refl _), (hown1.stored j v).1, fun u hu => ?_, fun i q hq => ?_, by rw [List.length_append, h.ql]; rfl, ?_, fun e he => ?_, by rw [List.length_cons, h.ml], fun d => ?_⟩
  · rcases List.mem_or_eq_of_mem_set hu with hu | rfl
    · exact h.sl u hu
    · exact hv
  · rcases Nat.lt_or_ge i j with hi | hi
    · rw [List.getElem?_append_left (by rw [h.ql]; exact hi)] at hq
      obtain ⟨u, h1, h2⟩ := h.inp i q hq
      exact ⟨u, by rw [List.getElem?_set_ne (by omega)]; exact h1, h2.far fs⟩
    · rw [List.getElem?_append_right (by rw [h.ql]; exact hi), h.ql] at hq
      have hij : i = j := by have := lt_of_some hq; simp at this; omega
      subst hij
      rw [Nat.sub_self] at hq
      simp at hq
      subst hq
      exact ⟨v, List.getElem?_set_self (by omega), hp.far fs⟩
  · refine hM.kept ?_
    exact (set_grownW w1 w.heap.size j v).block _ hM.lt (fun e => by injection e with e; omega)
  · rcases List.mem_cons.1 he with rfl | he
    · exact hcs
    · exact h.mo e he
  · have htk : K.take (j + 1) = K.take j ++ [c] := by rw [List.take_add_one, hc]; rfl
    unfold mpF
    by_cases hcd : c = d
    · right
      rw [if_pos hcd]
      exact ⟨j + 1, rfl, by omega, by omega, by rw [htk, hcd]; simp⟩
    · rw [if_neg hcd]
      rcases h.see d with ⟨h1, h2⟩ | ⟨v, h1, h2, h3, h4⟩
      · left
        refine ⟨h1, ?_⟩
        rw [htk, List.mem_append, List.mem_singleton]
        rintro (h5 | h5)
        · exact h2 h5
        · exact hcd h5.symm
      · right
        exact ⟨v, h1, h2, h3, by rw [htk]; exact List.mem_append_left _ h4⟩
theorem cos_new (w : World) (n : Nat) (hn : n ≤ 1000001) (K : List ByteArray) : CoS w ((w.alloc (.cells (madeCells #[.slice none 0 0] n) 35)).alloc (.map #[] 0)) n K 0 (List.replicate n (.slice none 0 0)) [] [] := by
  have h0 := World.ownsRow_lit (e := 35) (size := 1) (base := w.heap.size) w (madeCells #[.slice none 0 0] n) n (Nat.le_refl _) (by unfold maxLen; omega) (by rw [size_madeCells]; omega)
  rw [toList_madeCells_one] at h0
  have hs : (w.alloc (.cells (madeCells #[.slice none 0 0] n) 35)).heap.size = w.heap.size + 1 := by simp
  refine ⟨valloc_bel (valloc_bel (Below.refl _ _) _) _, ownsRow_below h0 (valloc_bel (Below.refl _ _) _), fun u hu => ?_, fun i p hp => by simp at hp, rfl, mp_new 9 stL ?_, fun e he => by simp at he, rfl, fun c => .inl ⟨rfl, by simp⟩⟩
  · obtain ⟨-, rfl⟩ := List.mem_replicate.1 hu
    exact ⟨_, _, _, rfl⟩
  · rw [← hs]
    simp only [World.alloc, Array.getElem?_push_size]
theorem inc_col {w wr : World} {n : Nat} {K : List ByteArray} {U : List Value} {Q : List (List PStep)} {L : List (ByteArray × Nat)} (h : CoS w wr n K n U Q L) (hn : n ≤ 1000001) : InC wr Q (.slice (some ⟨w.heap.size, 0, none⟩) n n) := by
  refine ⟨⟨w.heap.size, 0, none⟩, ⟨_, n, by rw [h.ql], by rw [h.ql]; exact Nat.le_refl _, by unfold maxLen; omega, fun _ => rfl⟩, fun i p hp => ?_⟩
  obtain ⟨u, h1, h2⟩ := h.inp i p hp
  have hi := lt_of_some hp
  rw [h.ql] at hi
  exact ⟨u, by rw [add_at, h.own.cellAt i (by omega)]; exact h1, h2⟩
theorem inc_nil (w : World) : InC w [] (.slice none 0 0) := ⟨⟨0, 0, none⟩, ⟨none, 0, rfl, Nat.le_refl _, Nat.zero_le _, fun h => absurd h (by simp)⟩, fun i s h => by simp at h⟩
set_option maxRecDepth 100000 in
set_option maxHeartbeats 4000000 in
theorem ucol_any (K : List ByteArray) (v : Value) (w : World) (hK : InS w K v) (hg : Glob5 w) (hn : K.length ≤ 100000) (hs : ∀ c ∈ K, c.size ≤ 10000) :
    Calls Tryz.prog 44 #[v] w (ColP K w) := by
  obtain ⟨a, ⟨o, cap, rfl, h1, h2, h3⟩, hk⟩ := hK
  unfold maxLen at h2
  have HK := hid hk
  have HS := hid hs
  have HG := hid hg
  have H3 := hid h3
  obtain ⟨n, hnn⟩ : ∃ n, K.length = n := ⟨_, rfl⟩
  rw [hnn] at hn h1 h3 ⊢
  have HN := hid hnn
  have hmk := Tryz.madeCo n (by omega)
  have hmm := @run_makeMap Tryz.prog
  clear hk hs hg h3 hnn
  go_enter Tryz.func44, Tryz.ntmps44
  go_upto_region 3 with fail
  refine cewp_gen ?_
  intro W hW
  have HCO := hid (show CoS w W n K 0 (List.replicate n (.slice none 0 0)) [] [] by rw [hW]; exact cos_new w n (by omega) K)
  clear hW hmk hmm
  go_wp2_with fail
  go_loopw [17] (fun i wr => ∃ (j : Nat) (U : List Value) (Q : List (List PStep)) (L : List (ByteArray × Nat)), i = .int .i64 j ∧ j ≤ n ∧ Hid (CoS w wr n K j U Q L) ∧ Hid (∀ k, k < j → badN K k = 0) ∧ Hid ((K.take j).map prsN = Q.map some)) (fun i _ => n - (intOf i).toNat)
  case atStart => exact ⟨0, _, _, _, rfl, Nat.zero_le _, HCO, hid (fun k h => absurd h (Nat.not_lt_zero k)), hid rfl⟩
  case round =>
    clear HCO
    obtain ⟨j, U, Q, L, rfl, hj, HCO, HBN, HPQ⟩ := hrel
    by_cases hlt : j < n
    · obtain ⟨c, hc⟩ : ∃ c, K[j]? = some c := ⟨K[j]'(by rw [HN.out]; exact hlt), List.getElem?_eq_getElem _⟩
      have hcm := List.mem_of_getElem? hc
      have hcs := HS.out c hcm
      obtain rfl := H3.out (by rw [HN.out]; omega)
      have k0 := keepCell HCO.out.bel (HK.out j c hc).1
      have CP' := hid (fun X (hX : Below wr.heap.size wr X) => parse_any ((⟨#[47]⟩ : ByteArray) ++ c) X (HG.out.on (vonto HCO.out.bel hX)) (by rw [ByteArray.size_append]; show 1 + c.size ≤ _; omega))
      have hd : ((⟨#[47]⟩ : ByteArray) ++ c).data.toList = 47 :: c.data.toList := by
        rw [ByteArray.data_append, Array.toList_append]; rfl
      have HC := hid hc
      have HDD := hid hd
      clear hc hcm hd
      go_wp2_with fail
      go_at_call 76
      refine (CP'.out _ (Below.refl _ _)).mono ?_
      rintro e w1 ⟨hpost, hb1⟩
      rw [HDD.out] at hpost
      have HC1 := hid (HCO.out.onto hb1)
      rcases hpost with ⟨v1, q, hq, rfl, hin⟩ | ⟨hq, rfl⟩
      · have HQ := hid (show prsN c = some q from hq)
        obtain ⟨op, cp, rfl⟩ := inp_slice hin
        have HIN := hid hin
        have hlk := mp_look1 st_kr HC1.out.mp HC1.out.mo 131 (by kernel_rfl) c (by omega)
        rcases HC1.out.see c with ⟨hm1, hm2⟩ | ⟨z, hm1, hm2, hm3, hm4⟩
        · rw [hm1] at hlk
          simp only [Option.getD_none] at hlk
          have HB0 := hid (show badN K j = 0 by unfold badN; rw [HC.out]; simp only; rw [HQ.out]; simp only; rw [if_neg (fun h => hm2 (hasN_iff.1 h))])
          obtain ⟨w2, hrun, hm5, hg5⟩ := mp_put st_kr HC1.out.mp 131 (by kernel_rfl) c (by omega) (j + 1) (by omega) (by have := HC1.out.ml; omega)
          have HMO := hid (HC1.out.more hlt HC.out (by omega) HIN.out ⟨_, _, _, rfl⟩ hm5 hg5)
          have hcell : ∃ u, w2.cell? ⟨w.heap.size, j, none⟩ = some u := by
            have h5 := HC1.out.own.kept hg5 (off_self (by omega))
            have hl : U.length = n := by have := HC1.out.own.1; omega
            rw [h5.cellAt j (by omega)]
            exact ⟨_, List.getElem?_eq_getElem (by omega)⟩
          obtain ⟨u, hu⟩ := hcell
          have hf : w2.frozen? ⟨w.heap.size, j, none⟩ = false := (HC1.out.own.kept hg5 (off_self (by omega))).frozenAt j
          have HBN2 := hid (show ∀ k, k < j + 1 → badN K k = 0 from fun k hk => by
            by_cases hkj : k = j
            · subst hkj; exact HB0.out
            · exact HBN.out k (by omega))
          have HPQ2 := hid (show (K.take (j + 1)).map prsN = (Q ++ [q]).map some by
            rw [List.take_add_one, HC.out, List.map_append, HPQ.out, List.map_append]
            simp [HQ.out])
          push_cast at hrun
          clear hm1 hm2 hm5 hg5 hin hq hb1
          go_wp2_with fail
          go_roundw
          case rel => exact ⟨j + 1, _, _, _, val_int (by omega), hlt, HMO, HBN2, HPQ2⟩
          case measure => simp [intOf]; omega
        · rw [hm1] at hlk
          simp only [Option.getD_some] at hlk
          have HB0 := hid (show badN K j = 5 by unfold badN; rw [HC.out]; simp only; rw [HQ.out]; simp only; rw [if_pos (hasN_iff.2 hm4)])
          have HCPB := hid (show CP K 5 (j + 1) [] by
            rw [← HB0.out]
            exact .bad j HBN.out (by rw [HB0.out]; decide) (by rw [HN.out]; exact hlt))
          clear hm1 hm4 hin hq hb1
          go_wp2_with fail
          refine bodyPost_ret (v := .tuple #[.slice none 0 0, .int .i64 5, .int .i64 (((j + 1 : Nat)) : Int)]) (by simp [results, Tryz.results44, go_sem]) rfl ?_
          exact ⟨_, _, _, _, rfl, HCPB.out, inc_nil _, HC1.out.bel⟩
      · have HQ := hid (show prsN c = none from hq)
        have HB0 := hid (show badN K j = 4 by unfold badN; rw [HC.out]; simp only; rw [HQ.out])
        have HCPB := hid (show CP K 4 (j + 1) [] by
          rw [← HB0.out]
          exact .bad j HBN.out (by rw [HB0.out]; decide) (by rw [HN.out]; exact hlt))
        clear hq hb1
        go_wp2_with fail
        refine bodyPost_ret (v := .tuple #[.slice none 0 0, .int .i64 4, .int .i64 (((j + 1 : Nat)) : Int)]) (by simp [results, Tryz.results44, go_sem]) rfl ?_
        exact ⟨_, _, _, _, rfl, HCPB.out, inc_nil _, HC1.out.bel⟩
    · have hjn : j = n := by omega
      subst hjn
      have HCPB := hid (show CP K 0 0 Q from .ok Q (fun k => by
        rcases Nat.lt_or_ge k j with h | h
        · exact HBN.out k h
        · unfold badN; rw [List.getElem?_eq_none (by rw [HN.out]; exact h)]) (by have := HPQ.out; rwa [List.take_of_length_le (by rw [HN.out]; exact Nat.le_refl _)] at this))
      go_wp2_with fail
      refine bodyPost_ret (v := .tuple #[.slice (some ⟨w.heap.size, 0, none⟩) j j, .int .i64 0, .int .i64 ((0 : Nat) : Int)]) (by simp [results, Tryz.results44, go_sem]) rfl ?_
      exact ⟨_, _, _, _, rfl, HCPB.out, inc_col HCO.out (by omega), HCO.out.bel⟩
end Go.Proofs.YtadbeodeiijhdaaGreatDoor
namespace Go.Proofs.YtadbeodeiijhdaaGreatDoor
open Go.RowKit

theorem first_mem {c : UInt8} : ∀ {r : List UInt8}, c ∈ r → ∃ a b, r = a ++ c :: b ∧ c ∉ a
  | [], h => by simp at h
  | x :: r, h => by
    by_cases e : x = c
    · subst e; exact ⟨[], r, rfl, by simp⟩
    · have : c ∈ r := by
        rcases List.mem_cons.1 h with h1 | h1
        · exact absurd h1.symm e
        · exact h1
      obtain ⟨a, b, h1, h2⟩ := first_mem this
      exact ⟨x :: a, b, by rw [h1]; rfl, fun hm => by
        rcases List.mem_cons.1 hm with h3 | h3
        · exact e h3.symm
        · exact h2 h3⟩
theorem flat_congr {α β : Type} {f g : α → List β} : ∀ {l : List α}, (∀ x ∈ l, f x = g x) → l.flatMap f = l.flatMap g
  | [], _ => rfl
  | a :: l, h => by rw [List.flatMap_cons, List.flatMap_cons, h a (by simp), flat_congr (l := l) (fun x hx => h x (by simp [hx]))]
theorem split_flat : ∀ (n : Nat) (r : List UInt8), r.length ≤ n → (Lib.split r [47]).flatMap (fun x => 47 :: x) = 47 :: r
  | 0, r, h => by
    have : r = [] := List.eq_nil_of_length_eq_zero (by omega)
    subst this
    rw [split_no (by simp)]; rfl
  | n + 1, r, h => by
    by_cases hm : (47 : UInt8) ∈ r
    · obtain ⟨a, b, e, ha⟩ := first_mem hm
      subst e
      rw [split_at ha, List.flatMap_cons, split_flat n b (by simp at h; omega)]
      simp
    · rw [split_no hm]; simp
theorem dv_pos {l : List UInt8} (h : digB l = true) (h0 : ¬ l = [48]) : 1 ≤ dv 0 l := by
  unfold digB at h
  simp only [Bool.and_eq_true, Bool.not_eq_true'] at h
  obtain ⟨⟨h1, h2⟩, h3⟩ := h
  cases l with
  | nil => simp at h1
  | cons c r =>
    have hc : 48 ≤ c.toNat ∧ c.toNat ≤ 57 := by
      have := List.all_eq_true.1 h3 c (by simp)
      simpa using this
    have hne : ¬ c = 48 := by
      intro e
      subst e
      cases r with
      | nil => exact h0 rfl
      | cons d r => simp at h2
    have hc2 : ¬ c.toNat = 48 := fun e => hne (UInt8.toNat_inj.1 e)
    have := dv_ge r (0 * 10 + (c.toNat - 48))
    rw [dv_cons]; omega
theorem dd_back : ∀ (n : Nat) (l : List UInt8), l.length ≤ n → digB l = true → Lib.decDigits (dv 0 l) = l
  | 0, l, hl, h => by
    have : l = [] := List.eq_nil_of_length_eq_zero (by omega)
    subst this
    cases h
  | n + 1, l, hl, h => by
    rcases List.eq_nil_or_concat l with rfl | ⟨r, c, e⟩
    · cases h
    rw [List.concat_eq_append] at e
    subst e
    have hall := h
    unfold digB at hall
    simp only [Bool.and_eq_true, Bool.not_eq_true'] at hall
    obtain ⟨⟨h1, h2⟩, h3⟩ := hall
    have hc : 48 ≤ c.toNat ∧ c.toNat ≤ 57 := by
      have := List.all_eq_true.1 h3 c (by simp)
      simpa using this
    have hcb : UInt8.ofNat (48 + (c.toNat - 48)) = c := by
      apply UInt8.toNat_inj.1
      simp; omega
    cases r with
    | nil =>
      have e : dv 0 ([] ++ [c]) = c.toNat - 48 := by rw [dv_snoc]; simp [dv]
      rw [e, Lib.decDigits, dif_pos (by omega), hcb]; rfl
    | cons d r =>
      have hd : ¬ d = 48 := by
        intro e
        subst e
        simp at h2
      have hdr : digB (d :: r) = true := by
        unfold digB
        simp only [Bool.and_eq_true, Bool.not_eq_true']
        refine ⟨⟨rfl, ?_⟩, ?_⟩
        · simp [hd]
        · rw [List.all_eq_true] at h3 ⊢
          intro b hb
          exact h3 b (by simp at hb ⊢; rcases hb with h | h; · exact Or.inl h
                         · exact Or.inr (Or.inl h))
      have hp := dv_pos hdr (fun e => by injection e with e _; exact hd e)
      have ih := dd_back n (d :: r) (by simp at hl ⊢; omega) hdr
      rw [dv_snoc, Lib.decDigits, dif_neg (by omega)]
      rw [show (dv 0 (d :: r) * 10 + (c.toNat - 48)) / 10 = dv 0 (d :: r) by omega, show (dv 0 (d :: r) * 10 + (c.toNat - 48)) % 10 = c.toNat - 48 by omega, ih, hcb]
theorem ps_text {l : List UInt8} (h : psOk l = true) : stepT (psStep l) = l ∧ Frm (psStep l) := by
  unfold psOk at h
  unfold psStep
  by_cases hd : digB l = true
  · rw [if_pos hd, decide_eq_true_eq] at h
    rw [if_pos hd, if_pos (by omega)]
    refine ⟨?_, Or.inl ⟨rfl, rfl, by simp, by simp; omega⟩⟩
    unfold stepT
    rw [if_pos rfl]
    show Lib.itoa ((dv 0 l : Nat) : Int) = l
    rw [Lib.itoa_nonneg]
    exact dd_back l.length l (Nat.le_refl _) hd
  · rw [if_neg hd, decide_eq_true_eq] at h
    rw [if_neg hd]
    refine ⟨?_, Or.inr ⟨rfl, rfl⟩⟩
    unfold stepT
    rw [if_neg (by simp)]
    show keyT (mkS (unK l)).data.toList = l
    rw [mkS_list]; exact h
/-- what is read as a path is that path's text -/
theorem parse_sound {S : List UInt8} {p : List PStep} (h : parseP S = some p) : textP p = S ∧ ∀ s ∈ p, Frm s := by
  unfold parseP at h
  by_cases h0 : S = []
  · rw [if_pos h0] at h
    injection h with h
    subst h
    exact ⟨h0.symm, by simp⟩
  rw [if_neg h0] at h
  by_cases h1 : S.getD 0 0 = 47
  · rw [if_neg (by simpa using h1)] at h
    by_cases h2 : (piecesP S).all psOk = true
    · rw [if_pos h2] at h
      injection h with h
      subst h
      rw [List.all_eq_true] at h2
      have hS : S = 47 :: S.drop 1 := by
        cases S with
        | nil => exact absurd rfl h0
        | cons a r => simp at h1; rw [h1]; rfl
      constructor
      · unfold textP
        rw [List.flatMap_map]
        have : (piecesP S).flatMap (fun x => 47 :: stepT (psStep x)) = (piecesP S).flatMap (fun x => 47 :: x) := by
          apply flat_congr
          intro x hx
          rw [(ps_text (h2 x hx)).1]
        rw [this]
        unfold piecesP
        rw [split_flat _ _ (Nat.le_refl _), ← hS]
      · intro s hs
        obtain ⟨x, hx, rfl⟩ := List.mem_map.1 hs
        exact (ps_text (h2 x hx)).2
    · rw [if_neg h2] at h; cases h
  · rw [if_pos (by simpa using h1)] at h; cases h
end Go.Proofs.YtadbeodeiijhdaaGreatDoor
