import Derived.Test.YteimbjamnfkapaaGreatDoorCMathUe
import Derived.Test.YteimbjamnfkapaaGreatDoorCPathEvery
import Derived.Test.YteimbjamnfkapaaGreatDoorCShelf3
import Derived.Test.YteimbjamnfkapaaGreatDoorCUnG
import Derived.Test.YteimbjamnfkapaaGreatDoorCCeB
/- Plain mathematics: how many nodes a tree has that has these leaves, and how deep it is; what the laws want of Build. -/
namespace Go.Proofs.YteimbjamnfkapaaGreatDoor
open Go.RowKit
theorem get_kid {T t : VT} {s : PStep} {r : List PStep} (h : getP T (s :: r) = some t) : ∃ u, ((∃ i : Nat, T.ls[i]? = some u) ∨ ∃ i : Nat, T.vs[i]? = some u) ∧ getP u r = some t := by
 rw [getP_cons] at h
 cases hi : idxT T s with
 | none => rw [hi] at h; cases h
 | some i =>
  rw [hi, Option.bind_some] at h
  cases hk : kidT T s i with
  | none => rw [hk] at h; cases h
  | some u =>
   rw [hk, Option.bind_some] at h
   refine ⟨u, ?_, h⟩
   unfold kidT at hk
   split at hk
   ·exact .inl ⟨i, hk⟩
   ·exact .inr ⟨i, hk⟩
theorem get_deep : ∀ (q : List PStep) (T t : VT), getP T q = some t → q.length + 1 ≤ hgT T
 | [], T, t, _ => hgT_pos T
 | s :: q, T, t, h => by
  obtain ⟨u, hu, hr⟩ := get_kid h
  have h1 := get_deep q u t hr
  have h2 := hg_ls T
  have h3 : hgT u + 1 ≤ hgT T := by
   rcases hu with ⟨i, hi⟩ | ⟨i, hi⟩
   ·have := (hgL_get T.ls _).1 (Nat.le_refl _) i u hi; omega
   ·have := (hgL_get T.vs _).1 (Nat.le_refl _) i u hi; omega
  simp only [List.length_cons]; omega
theorem firstI_some {p : ByteArray → Bool} : ∀ {K : List ByteArray} {j : Nat}, firstI p K = some j → ∃ c, K[j]? = some c ∧ p c = true
 | [], j, h => by cases h
 | a :: K, j, h => by
  unfold firstI at h
  by_cases ha : p a = true
  ·rw [if_pos ha] at h; injection h with h; subst h; exact ⟨a, rfl, ha⟩
  ·rw [if_neg ha] at h
   obtain ⟨i, hi, rfl⟩ := Option.map_eq_some_iff.1 h
   obtain ⟨c, h1, h2⟩ := firstI_some hi
   exact ⟨c, by simpa using h1, h2⟩
theorem in_allL (p x : List PStep) : ∀ (L : List VT) (j i : Nat) (u : VT), L[i]? = some u → x ∈ allT u (p ++ [plS (j + i)]) → x ∈ allL L j p
 | [], j, i, u, h, _ => by simp at h
 | t :: L, j, 0, u, h, hx => by
  simp at h; subst h
  unfold allL
  exact List.mem_append_left _ (by simpa using hx)
 | t :: L, j, i + 1, u, h, hx => by
  unfold allL
  exact List.mem_append_right _ (in_allL p x L (j + 1) i u (by simpa using h) (by rw [show j + 1 + i = j + (i + 1) by omega]; exact hx))
theorem in_allM (p x : List PStep) : ∀ (V : List VT) (K : List ByteArray) (i : Nat) (u : VT) (c : ByteArray), V[i]? = some u → K[i]? = some c → x ∈ allT u (p ++ [kyS c]) → x ∈ allM V K p
 | [], K, i, u, c, h, _, _ => by simp at h
 | t :: V, [], i, u, c, _, h, _ => by simp at h
 | t :: V, k :: K, 0, u, c, h, hk, hx => by
  simp at h hk; subst h hk
  unfold allM
  exact List.mem_append_left _ (by simpa using hx)
 | t :: V, k :: K, i + 1, u, c, h, hk, hx => by
  unfold allM
  exact List.mem_append_right _ (in_allM p x V K i u c (by simpa using h) (by simpa using hk) hx)
theorem get_all : ∀ (r : List PStep) (T t : VT) (p : List PStep), AllCn r → getP T r = some t → p ++ r ∈ allT T p
 | [], T, t, p, _, _ => by rw [allT_at, List.append_nil]; exact List.mem_cons_self
 | s :: r, T, t, p, hr, h => by
  rw [allT_at]
  refine List.mem_cons_of_mem _ ?_
  obtain ⟨k, n, st, L, K, V⟩ := T
  show p ++ s :: r ∈ (if k = 5 then allL L 0 p else if k = 6 then allM V K p else [])
  rcases hr.tail.1.cases with ⟨i, rfl⟩ | ⟨c, rfl⟩
  ·by_cases hk : k = 5
   ·subst hk
    rw [if_pos rfl]
    rw [get_lpl] at h
    cases hi : L[i]? with
    | none => rw [hi] at h; cases h
    | some u =>
     rw [hi, Option.bind_some] at h
     have := get_all r u t (p ++ [lpl i]) hr.tail.2 h
     rw [List.append_assoc] at this
     exact in_allL p _ L 0 i u hi (by rw [Nat.zero_add]; exact this)
   ·rw [get_lpl_no hk] at h; cases h
  ·by_cases hk : k = 6
   ·subst hk
    rw [if_neg (by decide), if_pos rfl]
    rw [getP_cons, idx_lky] at h
    cases hf : firstI (keyIs c) K with
    | none => rw [hf] at h; cases h
    | some j =>
     obtain ⟨c', h1, h2⟩ := firstI_some hf
     unfold keyIs at h2
     have e2 : c' = c := ba_eq (by simpa using h2)
     subst e2
     rw [hf, Option.bind_some] at h
     have e3 : kidT (.mk 6 n st L K V) (lky c') j = V[j]? := by unfold kidT; rw [if_neg (lky_pl c')]; rfl
     rw [e3] at h
     cases hv : V[j]? with
     | none => rw [hv] at h; cases h
     | some u =>
      rw [hv, Option.bind_some] at h
      have := get_all r u t (p ++ [lky c']) hr.tail.2 h
      rw [List.append_assoc] at this
      exact in_allM p _ V K j u c' hv h1 this
   ·rw [get_lky_no hk] at h; cases h
theorem AllCn.pre {q r : List PStep} (h : AllCn (q ++ r)) : AllCn q := fun s hs => h s (List.mem_append_left _ hs)
theorem tree_many {l : Lvs} {T : VT} (h : TreeOf l T) (hc : ∀ e ∈ l, AllCn e.1) {X : List (List PStep)} (hn : X.Nodup) (hX : ∀ q ∈ X, ∃ e ∈ l, ∃ r, e.1 = q ++ r) : X.length ≤ szT T := by
 have hs : X ⊆ allT T [] := fun q hq => by
  obtain ⟨e, he, r, hr⟩ := hX q hq
  have hce := hc e he
  have h1 := ((h.2 e.1 e.2 hce).2 he).1
  rw [hr, getP_app] at h1
  cases hg : getP T q with
  | none => rw [hg] at h1; cases h1
  | some t =>
   have := get_all q T t [] (by rw [hr] at hce; exact hce.pre) hg
   simpa using this
 exact Nat.le_trans (List.Nodup.length_le_of_subset hn hs) (allT_len T [])
theorem tree_deep {l : Lvs} {T : VT} (h : TreeOf l T) (hc : ∀ e ∈ l, AllCn e.1) {e : List PStep × VT} (he : e ∈ l) : e.1.length + 1 ≤ hgT T := get_deep _ _ _ ((h.2 e.1 e.2 (hc e he)).2 he).1
theorem no_tree {l : Lvs} (hc : ∀ e ∈ l, AllCn e.1) {X : List (List PStep)} (hn : X.Nodup) (hX : ∀ q ∈ X, ∃ e ∈ l, ∃ r, e.1 = q ++ r) (hbad : 4096 < X.length ∨ ∃ e ∈ l, 32 < e.1.length + 1) : ¬ ∃ T, TreeOf l T ∧ mayB 0 1 T = true := by
 rintro ⟨T, h1, h2⟩
 obtain ⟨h3, h4, -⟩ := good_sz h2
 rcases hbad with h5 | ⟨e, he, h5⟩
 ·have := tree_many h1 hc hn hX; omega
 ·have := tree_deep h1 hc he; omega
end Go.Proofs.YteimbjamnfkapaaGreatDoor
/- unflat's Build, walked. -/
namespace Go.Proofs.YteimbjamnfkapaaGreatDoor
open Go.RowKit Go.Maps
def BuildP (l : Lvs) (w : World) (r : Ending) (w' : World) : Prop := ∃ T x y k i, r = .returned (.tuple #[vv T x y, .int .i64 k, .int .i64 ((i : Nat) : Int)]) ∧ BP l k i T ∧ HS w' (fun k => w.heap.size ≤ k ∧ k < w'.heap.size) T x y ∧ Below w.heap.size w w'
theorem Tryz.madeNode (w : World) : (Instr.makeSlice 97 (.int .i64 1) (.int .i64 1)).run Tryz.prog w = .ok (.slice (some ⟨w.heap.size, 0, none⟩) 1 1) (w.alloc (.cells #[.int .i64 0, .string ⟨#[]⟩, .int .i64 0, .bool false, .int .i64 0, .slice none 0 0] 152)) := by
 obtain ⟨i, hi, hz⟩ := Option.map_eq_some_iff.1 Tryz.infoNode
 simp only [Prod.mk.injEq] at hz
 obtain ⟨hz, hs, hb⟩ := hz
 have := run_make (P := Tryz.prog) w 97 152 i _ Tryz.underlying97 hi hz .i64 .i64 1 1 (by omega) (Int.le_refl _) (by rw [hb]; decide) (by decide)
 rw [hs] at this
 have e : madeCells #[.int .i64 0, .string ⟨#[]⟩, .int .i64 0, .bool false, .int .i64 0, .slice none 0 0] (1 * 6) = #[.int .i64 0, .string ⟨#[]⟩, .int .i64 0, .bool false, .int .i64 0, .slice none 0 0] := by
  apply Array.toList_inj.1
  rw [made_flat [.int .i64 0, .string ⟨#[]⟩, .int .i64 0, .bool false, .int .i64 0, .slice none 0 0] 6 1 rfl (by decide)]
  rfl
 simp only [show ((1 : Int).toNat * 6) = 1 * 6 from rfl] at this
 rw [show (Value.agg #[.int .i64 0, .string ⟨#[]⟩, .int .i64 0, .bool false, .int .i64 0, .slice none 0 0]).cells = #[.int .i64 0, .string ⟨#[]⟩, .int .i64 0, .bool false, .int .i64 0, .slice none 0 0] from rfl, e] at this
 exact this
def nd0 : NE := ⟨⟨0, ⟨⟨#[]⟩, 0, false⟩, 0, []⟩, .slice none 0 0⟩
theorem tt_new (W : World) : TT W.heap.size (((W.alloc (.cells #[.int .i64 0, .string ⟨#[]⟩, .int .i64 0, .bool false, .int .i64 0, .slice none 0 0] 152)).alloc (.map #[] 0)).alloc (.cells #[.slice (some ⟨W.heap.size, 0, none⟩) 1 1, .map (some (W.heap.size + 1))] 100)) (W.heap.size + 2) (W.heap.size + 1) [] [[]] W.heap.size 1 [nd0] [] := by
 have hb1 := valloc_bel (Below.refl (W.alloc (.cells #[.int .i64 0, .string ⟨#[]⟩, .int .i64 0, .bool false, .int .i64 0, .slice none 0 0] 152)).heap.size (W.alloc (.cells #[.int .i64 0, .string ⟨#[]⟩, .int .i64 0, .bool false, .int .i64 0, .slice none 0 0] 152))) (.map #[] 0)
 have hb2 := valloc_bel hb1 (.cells #[.slice (some ⟨W.heap.size, 0, none⟩) 1 1, .map (some (W.heap.size + 1))] 100)
 refine ⟨⟨by omega, by omega, by simp; omega, ?_, ?_, fun e he => ?_, fun i j a b hij ha hb => ?_, ?_, fun x hx => by simp at hx⟩, tri_new _, Nat.le_refl _⟩
 ·have hs : ((W.alloc (.cells #[.int .i64 0, .string ⟨#[]⟩, .int .i64 0, .bool false, .int .i64 0, .slice none 0 0] 152)).alloc (.map #[] 0)).heap.size = W.heap.size + 2 := by simp
  rw [← hs]
  simp only [World.alloc, Array.getElem?_push_size]
  rfl
 ·have h := World.ownsRow_lit (e := 152) (size := 6) (base := W.heap.size) W #[.int .i64 0, .string ⟨#[]⟩, .int .i64 0, .bool false, .int .i64 0, .slice none 0 0] 1 (Nat.le_refl _) (by decide) (by decide)
  exact ownsRow_below h hb2
 ·rw [List.mem_singleton.1 he]; exact World.ownsRow_nil _ _ _ _
 ·exfalso
  have h1 := lt_of_some ha; have h2 := lt_of_some hb
  simp at h1 h2; omega
 ·have hs : (W.alloc (.cells #[.int .i64 0, .string ⟨#[]⟩, .int .i64 0, .bool false, .int .i64 0, .slice none 0 0] 152)).heap.size = W.heap.size + 1 := by simp
  have hm : ((W.alloc (.cells #[.int .i64 0, .string ⟨#[]⟩, .int .i64 0, .bool false, .int .i64 0, .slice none 0 0] 152)).alloc (.map #[] 0)).heap[W.heap.size + 1]? = some (.map #[] 0) := by
   rw [← hs]
   simp only [World.alloc, Array.getElem?_push_size]
  refine mp_new 201 wyL ?_
  rw [(valloc_bel (Below.refl _ _) _ : Below ((W.alloc (.cells #[.int .i64 0, .string ⟨#[]⟩, .int .i64 0, .bool false, .int .i64 0, .slice none 0 0] 152)).alloc (.map #[] 0)).heap.size _ _).block (W.heap.size + 1) (by simp)]
  exact hm
theorem TT.onto {B : Nat} {w w' : World} {tb m g c : Nat} {Ev : Evd} {X : List (List PStep)} {E : List NE} {M : Ways} (h : TT B w tb m Ev X g c E M) (hb : Below w.heap.size w w') : TT B w' tb m Ev X g c E M := ⟨h.tm.onto hb, h.tri, h.cap⟩
theorem TT.off {B : Nat} {w : World} {tb m g c : Nat} {Ev : Evd} {X : List (List PStep)} {E : List NE} {M : Ways} (h : TT B w tb m Ev X g c E M) {b : Nat} (hb : w.heap.size ≤ b) : Off tb m g E b := by
 refine ⟨fun e => by have := h.tm.lt; omega, fun e => by have := h.tm.mp.lt; omega, fun e => by have := (h.tm.ns.lt g rfl).2; omega, fun e he e0 => ?_⟩
 have := ((h.tm.ps e he).lt b e0).2
 omega
theorem lbox6_of {w W : World} {a b c d e f : Value} (h : W = w.alloc (.cells #[a, b, c, d, e, f] 43)) : W.cell? ⟨w.heap.size, 0, none⟩ = some a ∧ W.cell? ⟨w.heap.size, 4, none⟩ = some e ∧ W.cell? ⟨w.heap.size, 5, none⟩ = some f ∧ Below w.heap.size w W ∧ W.heap.size = w.heap.size + 1 := by
 subst h
 exact ⟨by simp, by simp, by simp, valloc_bel (Below.refl _ _) _, by simp⟩
theorem evL_snoc {l : Lvs} {j : Nat} {e : List PStep × VT} (h : l[j]? = some e) : evL (l.take (j + 1)) = evL (l.take j) ++ [(e.1, e.1.length + 1)] := by
 unfold evL
 rw [List.take_add_one, h, List.map_append]; rfl
theorem evL_ends (l : Lvs) : ∀ x ∈ evL l, x.2 = x.1.length + 1 := fun x hx => by
 obtain ⟨e, -, rfl⟩ := evL_mem hx
 rfl
theorem bad_parts {l : Lvs} {j : Nat} {e : List PStep × VT} (h : l[j]? = some e) (hp : partsB e.2 = true) : badE l j = 1 := by
 unfold badE; rw [h]; simp only; rw [if_pos hp]
theorem bad_clash {l : Lvs} {j : Nat} {e : List PStep × VT} (h : l[j]? = some e) (hp : partsB e.2 = false) (hc : ∃ x ∈ evL (l.take j), clP x.1 e.1 = true) : badE l j = 8 := by
 unfold badE; rw [h]; simp only
 rw [if_neg (by rw [hp]; decide), if_pos]
 obtain ⟨x, hx, h2⟩ := hc
 obtain ⟨e', he', rfl⟩ := evL_mem hx
 exact List.any_eq_true.2 ⟨e', he', h2⟩
theorem bad_none {l : Lvs} {j : Nat} {e : List PStep × VT} (h : l[j]? = some e) (hp : partsB e.2 = false) (hc : ∀ x ∈ evL (l.take j), clP x.1 e.1 = false) : badE l j = 0 := by
 unfold badE; rw [h]; simp only
 rw [if_neg (by rw [hp]; decide), if_neg]
 intro ha
 obtain ⟨e', he', h2⟩ := List.any_eq_true.1 ha
 have := hc _ (evL_in he')
 rw [this] at h2; cases h2
theorem bad_past {l : Lvs} {k : Nat} (h : l.length ≤ k) : badE l k = 0 := by unfold badE; rw [List.getElem?_eq_none h]
theorem gapB_iff {E : List NE} {M : Ways} {l : Lvs} {X : List (List PStep)} (h : Grown l X (E.map NE.d) M) {a : Nat} {e : NE} (he : E[a]? = some e) : gapB E e = false ↔ Well (E.map NE.d) e.d := by
 have hn : (E.map NE.d)[a]? = some e.d := by rw [List.getElem?_map, he]; rfl
 obtain ⟨q, hq⟩ : ∃ q, X[a]? = some q := ⟨_, List.getElem?_eq_getElem (by rw [h.tri.len]; exact lt_of_some hn)⟩
 unfold gapB Well
 by_cases hs : e.d.sh = 2
 ·rw [decide_eq_true hs, Bool.true_and, List.any_eq_false]
  have key : ∀ b ∈ e.d.ps, (outB E e.d.ps.length b = true ↔ ¬ plN (E.map NE.d) b < e.d.ps.length) := fun b hb => by
   obtain ⟨nb, h1, -, h3⟩ := h.place hn hq hs hb
   have h1' := h1
   rw [List.getElem?_map] at h1
   obtain ⟨eb, h4, h5⟩ := Option.map_eq_some_iff.1 h1
   unfold outB outA
   rw [h4]
   simp only
   rw [h5, h3]
   show (decide ((((plN (E.map NE.d) b) : Nat) : Int) < 0) || decide (((e.d.ps.length : Nat) : Int) ≤ (((plN (E.map NE.d) b) : Nat) : Int))) = true ↔ _
   rw [Bool.or_eq_true, decide_eq_true_iff, decide_eq_true_iff]
   omega
  exact ⟨fun h2 _ b hb => Decidable.byContradiction fun h3 => h2 b hb ((key b hb).2 h3), fun h2 b hb h3 => (key b hb).1 h3 (h2 hs b hb)⟩
 ·rw [decide_eq_false hs, Bool.false_and]
  exact ⟨fun _ h2 => absurd h2 hs, fun _ => rfl⟩
set_option maxRecDepth 100000 in
set_option maxHeartbeats 8000000 in
theorem build_any (l : Lvs) (lv : Value) (w : World) (hl : InLf w l lv) (hg : Glob w) (hcn : ∀ e ∈ l, AllCn e.1) (hok : ∀ e ∈ l, ∀ s ∈ e.1, OkS s) (hn : l.length ≤ 5000) (hlen : ∀ e ∈ l, e.1.length ≤ 1000) :
  Calls Tryz.prog 20 #[lv] w (BuildP l w) := by
 have HLV := hid hl
 have HG := hid hg
 have HCN := hid hcn
 have HOK := hid hok
 have HLEN := hid hlen
 have hmk := Tryz.madeNode
 have hmm := @run_makeMap Tryz.prog
 obtain ⟨al, ol, cl, rfl, l1, l2, l3, l4⟩ := hl.sls
 unfold maxLen at l2
 have HL3 := hid l3
 have HL4 := hid l4
 obtain ⟨n, hnn⟩ : ∃ n, l.length = n := ⟨_, rfl⟩
 rw [hnn] at hn l1
 have HN := hid hnn
 rw [hnn]
 clear hl hg hcn hok hlen l3 l4 hnn
 go_enter Tryz.func20, Tryz.ntmps20
 go_upto_region 1 with fail
 refine cewp_gen ?_
 intro W hW
 obtain ⟨r0, hb0, hz0⟩ := rbox_of hW
 have R0 := hid r0
 have HB0 := hid hb0
 have HZ0 := hid hz0
 clear hW r0 hb0 hz0
 by_cases hn0 : n = 0
 ·subst hn0
  have HBP := hid (BP.none (l := l) (List.eq_nil_of_length_eq_zero HN.out))
  obtain ⟨u0, e0⟩ := R0.out.cell (o := 0) (by decide)
  obtain ⟨u1, e1⟩ := R0.out.cell (o := 1) (by decide)
  obtain ⟨u2, e2⟩ := R0.out.cell (o := 2) (by decide)
  obtain ⟨u3, e3⟩ := R0.out.cell (o := 3) (by decide)
  obtain ⟨u4, e4⟩ := R0.out.cell (o := 4) (by decide)
  have z0 := R0.out.frozen
  go_wp2_with fail
  refine bodyPost_ret (v := .tuple #[vv zeroT (.slice none 0 0) (.slice none 0 0), .int .i64 1, .int .i64 ((0 : Nat) : Int)]) (by simp [results, Tryz.results20, go_sem, vv, zeroT, VT.kd, VT.nm, VT.st, e0, e1, e2, e3, e4]) rfl ?_
  exact ⟨zeroT, _, _, 1, 0, rfl, HBP.out, hs_zero _ _, put5_bel HB0.out (Nat.le_refl _)⟩
 ·have tn : ((n : Int) == 0) = false := by rw [beq_eq_false_iff_ne]; omega
  have HNE := hid (show l ≠ [] from fun e => hn0 (by rw [← HN.out, e]; rfl))
  go_upto_region 4 with fail
  refine cewp_gen ?_
  intro W2 hW
  have HTT := hid (show TT W.heap.size W2 (W.heap.size + 2) (W.heap.size + 1) (evL (l.take 0)) [[]] W.heap.size 1 [nd0] [] by
   rw [hW, List.take_zero]; exact tt_new W)
  have HB2 := hid (show Below W.heap.size W W2 by
   rw [hW]; exact valloc_bel (valloc_bel (valloc_bel (Below.refl _ _) _) _) _)
  clear hW hmk hmm
  go_wp2_with fail
  go_loopw [6, 21] (fun dv i wr => ∃ (j dp : Nat) (X : List (List PStep)) (g c : Nat) (E : List NE) (M : Ways), i = .int .i64 j ∧ dv = .int .i64 (dp : Int) ∧ j ≤ n ∧ Hid (TT W.heap.size wr (W.heap.size + 2) (W.heap.size + 1) (evL (l.take j)) X g c E M) ∧ Hid (Below W.heap.size W wr) ∧ Hid (E.length ≤ 1 + 1000 * j ∧ 0 < E.length) ∧ Hid (∀ k, k < j → badE l k = 0) ∧ dp ≤ 1001 ∧ Hid ((∀ (k : Nat) (e : List PStep × VT), k < j → l[k]? = some e → e.1.length + 1 ≤ dp) ∧ (dp = 0 ∨ ∃ e ∈ l, e.1.length + 1 = dp))) (fun _ i _ => n - (intOf i).toNat)
  case atStart => exact ⟨0, 0, [[]], W.heap.size, 1, [nd0], [], rfl, rfl, Nat.zero_le _, HTT, HB2, hid ⟨by decide, by decide⟩, hid (fun k h => absurd h (Nat.not_lt_zero k)), by omega, hid ⟨fun k e h => absurd h (Nat.not_lt_zero k), .inl rfl⟩⟩
  case round =>
   clear HTT HB2
   obtain ⟨j, dp, X, g, c, E, M, rfl, rfl, hj, HTT, HB2, HEL, HBD, hdp, HDP⟩ := hrel
   have R2 := hid (R0.out.onto (HB2.out.block _ R0.out.lt))
   by_cases hlt : j < n
   ·obtain ⟨e, he⟩ : ∃ e, l[j]? = some e := ⟨l[j]'(by rw [HN.out]; exact hlt), List.getElem?_eq_getElem _⟩
    have hem := List.mem_of_getElem? he
    obtain rfl := HL3.out (by rw [HN.out]; omega)
    obtain ⟨u, x, y, c0, hnode, hip, hhv⟩ := HL4.out j e he
    have hBw : Below w.heap.size w wr := vonto HB0.out (show Below W.heap.size W wr from HB2.out)
    have c0 := keepCell hBw c0
    have hnode := hnode.onto hBw
    obtain ⟨d0, d1, d2, d3, d4⟩ := hnode
    simp only [nx] at d0 d1 d2 d3 d4
    obtain ⟨op, cp, rfl⟩ := inp_slice hip
    obtain ⟨-, -, -, -, -, -, ox, oy, cx, cy, rfl, rfl, hq1, hq2, -, -, -, -, hq3, hq4, -⟩ := hhv.parts
    have hpl := HLEN.out e hem
    obtain ⟨np, hnp⟩ : ∃ k, e.1.length = k := ⟨_, rfl⟩
    obtain ⟨nl, hnl⟩ : ∃ k, e.2.ls.length = k := ⟨_, rfl⟩
    obtain ⟨nm, hnm⟩ : ∃ k, e.2.vs.length = k := ⟨_, rfl⟩
    have hx2 : nl ≤ 9223372036854775807 ∧ nm ≤ 9223372036854775807 := ⟨by omega, by omega⟩
    rw [hnp] at c0 hpl
    rw [hnl] at d3
    rw [hnm] at d4
    have HIP := hid (hip.onto HB0.out)
    rw [hnp] at HIP
    have HE := hid he
    have HNP := hid hnp
    have HNL := hid hnl
    have HNM := hid hnm
    obtain ⟨hx2, hx3⟩ := hx2
    clear he hip hhv hnp hnl hnm hq1 hq2 hq3 hq4
    go_upto_region 7 with fail
    refine cewp_gen ?_
    intro W3 hW
    obtain ⟨b0, b4, b5, hb3, hz3⟩ := lbox6_of hW
    have HB3 := hid (vonto HB2.out hb3)
    have R3 := hid (R2.out.onto (hb3.block _ R2.out.lt))
    have HT3 := hid (HTT.out.onto hb3)
    have HBW := hid (show Below w.heap.size w W3 from vonto HB0.out HB3.out)
    have HOFF := hid (fun (k : Nat) (hk : wr.heap.size ≤ k) => HTT.out.off hk)
    clear hW hb3 c0 d0 d1 d2 d3 d4 R2 hBw
    by_cases hl0 : 0 < nl
    ·have HBP := hid (show BP l 1 j zeroT from by
      have h1 := bad_parts HE.out (show partsB e.2 = true from by
       unfold partsB
       have := HNL.out
       cases hc : e.2.ls with
       | nil => rw [hc] at this; simp at this; omega
       | cons a b => rfl)
      rw [← h1]; exact .bad j HBD.out (by rw [h1]; decide))
     obtain ⟨u0, e0⟩ := R3.out.cell (o := 0) (by decide)
     obtain ⟨u1, e1⟩ := R3.out.cell (o := 1) (by decide)
     obtain ⟨u2, e2⟩ := R3.out.cell (o := 2) (by decide)
     obtain ⟨u3, e3⟩ := R3.out.cell (o := 3) (by decide)
     obtain ⟨u4, e4⟩ := R3.out.cell (o := 4) (by decide)
     have z0 := R3.out.frozen
     go_wp2_with fail
     refine bodyPost_ret (v := .tuple #[vv zeroT (.slice none 0 0) (.slice none 0 0), .int .i64 1, .int .i64 ((j : Nat) : Int)]) (by simp [results, Tryz.results20, go_sem, vv, zeroT, VT.kd, VT.nm, VT.st, e0, e1, e2, e3, e4]) rfl ?_
     exact ⟨zeroT, _, _, 1, j, rfl, HBP.out, hs_zero _ _, put5_bel HBW.out (Nat.le_refl _)⟩
    ·obtain rfl : nl = 0 := by omega
     by_cases hm0 : 0 < nm
     ·have HBP := hid (show BP l 1 j zeroT from by
       have h1 := bad_parts HE.out (show partsB e.2 = true from by
        unfold partsB
        have := HNM.out
        cases hc : e.2.vs with
        | nil => rw [hc] at this; simp at this; omega
        | cons a b => simp)
       rw [← h1]; exact .bad j HBD.out (by rw [h1]; decide))
      obtain ⟨u0, e0⟩ := R3.out.cell (o := 0) (by decide)
      obtain ⟨u1, e1⟩ := R3.out.cell (o := 1) (by decide)
      obtain ⟨u2, e2⟩ := R3.out.cell (o := 2) (by decide)
      obtain ⟨u3, e3⟩ := R3.out.cell (o := 3) (by decide)
      obtain ⟨u4, e4⟩ := R3.out.cell (o := 4) (by decide)
      have z0 := R3.out.frozen
      go_wp2_with fail
      refine bodyPost_ret (v := .tuple #[vv zeroT (.slice none 0 0) (.slice none 0 0), .int .i64 1, .int .i64 ((j : Nat) : Int)]) (by simp [results, Tryz.results20, go_sem, vv, zeroT, VT.kd, VT.nm, VT.st, e0, e1, e2, e3, e4]) rfl ?_
      exact ⟨zeroT, _, _, 1, j, rfl, HBP.out, hs_zero _ _, put5_bel HBW.out (Nat.le_refl _)⟩
     ·obtain rfl : nm = 0 := by omega
      have HPB := hid (show partsB e.2 = false from by
       unfold partsB
       rw [List.eq_nil_of_length_eq_zero HNL.out, List.eq_nil_of_length_eq_zero HNM.out]; rfl)
      have HLAY := hid (lay_any W.heap.size W W3 rfl HB3.out (W.heap.size + 2) (W.heap.size + 1) (evL (l.take j)) X g c E M HT3.out e.1 (.slice op np cp) HIP.out (HOK.out e hem) (HCN.out e hem) (by have := HEL.out; have := HNP.out; omega) (evL_ends _) j (by unfold evL; rw [List.length_map, List.length_take]; have := HN.out; omega) (by omega) HEL.out.2)
      clear hl0 hm0
      go_wp2_with fail
      go_at_call 49
      refine HLAY.out.mono ?_
      rintro r w4 ⟨hB4, hres⟩
      have R4 := hid (R0.out.onto (hB4.block _ R0.out.lt))
      have HB4 := hid hB4
      rcases hres with ⟨hcl, rfl⟩ | ⟨hno, rfl, X', g', c', E', M', hTT', hE', hE0', hfar⟩
      ·have HBP := hid (show BP l 8 j zeroT from by
        have h1 := bad_clash HE.out HPB.out hcl
        rw [← h1]; exact .bad j HBD.out (by rw [h1]; decide))
       have HBW4 := hid (show Below w.heap.size w w4 from vonto HB0.out HB4.out)
       clear hcl hB4 R3
       have R3 := R4
       obtain ⟨u0, e0⟩ := R3.out.cell (o := 0) (by decide)
       obtain ⟨u1, e1⟩ := R3.out.cell (o := 1) (by decide)
       obtain ⟨u2, e2⟩ := R3.out.cell (o := 2) (by decide)
       obtain ⟨u3, e3⟩ := R3.out.cell (o := 3) (by decide)
       obtain ⟨u4, e4⟩ := R3.out.cell (o := 4) (by decide)
       have z0 := R3.out.frozen
       go_wp2_with fail
       refine bodyPost_ret (v := .tuple #[vv zeroT (.slice none 0 0) (.slice none 0 0), .int .i64 8, .int .i64 ((j : Nat) : Int)]) (by simp [results, Tryz.results20, go_sem, vv, zeroT, VT.kd, VT.nm, VT.st, e0, e1, e2, e3, e4]) rfl ?_
       exact ⟨zeroT, _, _, 8, j, rfl, HBP.out, hs_zero _ _, put5_bel HBW4.out (Nat.le_refl _)⟩
      ·have hlt3 : wr.heap.size < W3.heap.size := by omega
       have hbl := hfar wr.heap.size hlt3 (HOFF.out _ (Nat.le_refl _))
       have b0 := (World.cell?_of_block (a := ⟨wr.heap.size, 0, none⟩) hbl).trans b0
       have HTT' := hid (show TT W.heap.size w4 (W.heap.size + 2) (W.heap.size + 1) (evL (l.take (j + 1))) X' g' c' E' M' by rw [evL_snoc HE.out]; exact hTT')
       have HEL' := hid (show E'.length ≤ 1 + 1000 * (j + 1) ∧ 0 < E'.length by have := HEL.out; have := HNP.out; omega)
       have HBD' := hid (show ∀ k, k < j + 1 → badE l k = 0 from fun k hk => by
        by_cases hkj : k = j
        ·subst hkj; exact bad_none HE.out HPB.out hno
        ·exact HBD.out k (by omega))
       by_cases hmx : dp < np + 1
       ·have HDP' := hid (show (∀ (k : Nat) (e : List PStep × VT), k < j + 1 → l[k]? = some e → e.1.length + 1 ≤ np + 1) ∧ (np + 1 = 0 ∨ ∃ e ∈ l, e.1.length + 1 = np + 1) from ⟨fun k e' hk he' => by
         by_cases hkj : k = j
         ·subst hkj; rw [HE.out] at he'; injection he' with he'; subst he'; have := HNP.out; omega
         ·have := HDP.out.1 k e' (by omega) he'; omega, .inr ⟨e, hem, by have := HNP.out; omega⟩⟩)
        clear hno hTT' hE' hE0' hfar hbl b4 b5 hB4
        go_wp2_with fail
        go_roundw
        case rel => exact ⟨j + 1, np + 1, X', g', c', E', M', val_int (by omega), val_int (by omega), hlt, HTT', HB4, HEL', HBD', by omega, HDP'⟩
        case measure => simp [intOf]; omega
       ·have HDP' := hid (show (∀ (k : Nat) (e : List PStep × VT), k < j + 1 → l[k]? = some e → e.1.length + 1 ≤ dp) ∧ (dp = 0 ∨ ∃ e ∈ l, e.1.length + 1 = dp) from ⟨fun k e' hk he' => by
         by_cases hkj : k = j
         ·subst hkj; rw [HE.out] at he'; injection he' with he'; subst he'; have := HNP.out; omega
         ·exact HDP.out.1 k e' (by omega) he', HDP.out.2⟩)
        clear hno hTT' hE' hE0' hfar hbl b4 b5 hB4
        go_wp2_with fail
        go_roundw
        case rel => exact ⟨j + 1, dp, X', g', c', E', M', val_int (by omega), val_int (by omega), hlt, HTT', HB4, HEL', HBD', hdp, HDP'⟩
        case measure => simp [intOf]; omega
   ·have hjn : j = n := by omega
    subst hjn
    have hgr : Grown l X (E.map NE.d) M := ⟨by have := HTT.out.tri; rwa [List.take_of_length_le (by rw [HN.out]; exact Nat.le_refl _)] at this, HNE.out, fun k => by
     rcases Nat.lt_or_ge k j with h | h
     ·exact HBD.out k h
     ·exact bad_past (by rw [HN.out]; exact h), HCN.out⟩
    have HGR := hid hgr
    have hEl : E.length ≤ 10000000 := by have := HEL.out; omega
    have HGAP := hid (gap_any W.heap.size wr (W.heap.size + 2) (W.heap.size + 1) g c E M HTT.out.tm (fun e he b hb => by
     obtain ⟨a, ha⟩ := List.getElem?_of_mem he
     have hn' : (E.map NE.d)[a]? = some e.d := by rw [List.getElem?_map, ha]; rfl
     obtain ⟨q, hq⟩ : ∃ q, X[a]? = some q := ⟨_, List.getElem?_eq_getElem (by rw [HGR.out.tri.len]; exact lt_of_some hn')⟩
     obtain ⟨nb, h1, -⟩ := HGR.out.part hn' hq hb
     have := lt_of_some h1
     rwa [List.length_map] at this) hEl)
    clear hgr
    go_wp2_with fail
    go_at_call 50
    refine HGAP.out.mono ?_
    rintro r w4 ⟨hb4, hres⟩
    have HB4 := hid (vonto HB2.out hb4)
    have R3 := hid (R2.out.onto (hb4.block _ R2.out.lt))
    have HT4 := hid (HTT.out.onto hb4)
    clear hb4
    rcases hres with ⟨a, e, he, hgb, hfirst, rfl⟩ | ⟨hall, rfl⟩
    ·have HBP := hid (show BP l 8 e.d.lf zeroT from by
      have hn' : (E.map NE.d)[a]? = some e.d := by rw [List.getElem?_map, he]; rfl
      obtain ⟨h1, h2⟩ := HGR.out.gap hn' (fun c' m hc hm => by
       rw [List.getElem?_map] at hm
       obtain ⟨e', he', rfl⟩ := Option.map_eq_some_iff.1 hm
       exact (gapB_iff HGR.out he').1 (hfirst c' e' hc he')) (fun hw => by
       have := (gapB_iff HGR.out he).2 hw
       rw [hgb] at this; cases this)
      exact .gap _ HNE.out HGR.out.fine h2 h1)
     have HBW4 := hid (show Below w.heap.size w w4 from vonto HB0.out HB4.out)
     clear he hgb hfirst
     obtain ⟨u0, e0⟩ := R3.out.cell (o := 0) (by decide)
     obtain ⟨u1, e1⟩ := R3.out.cell (o := 1) (by decide)
     obtain ⟨u2, e2⟩ := R3.out.cell (o := 2) (by decide)
     obtain ⟨u3, e3⟩ := R3.out.cell (o := 3) (by decide)
     obtain ⟨u4, e4⟩ := R3.out.cell (o := 4) (by decide)
     have z0 := R3.out.frozen
     go_wp2_with fail
     refine bodyPost_ret (v := .tuple #[vv zeroT (.slice none 0 0) (.slice none 0 0), .int .i64 8, .int .i64 ((e.d.lf : Nat) : Int)]) (by simp [results, Tryz.results20, go_sem, vv, zeroT, VT.kd, VT.nm, VT.st, e0, e1, e2, e3, e4]) rfl ?_
     exact ⟨zeroT, _, _, 8, e.d.lf, rfl, HBP.out, hs_zero _ _, put5_bel HBW4.out (Nat.le_refl _)⟩
    ·have HWELL := hid (show ∀ m ∈ E.map NE.d, Well (E.map NE.d) m from fun m hm => by
      obtain ⟨e, he, rfl⟩ := List.mem_map.1 hm
      obtain ⟨a, ha⟩ := List.getElem?_of_mem he
      exact (gapB_iff HGR.out ha).1 (hall e he))
     have HNG := hid (show ∀ k, ¬ GapAt l k from fun k => HGR.out.no_gap HWELL.out k)
     have HBW4 := hid (show Below w.heap.size w w4 from vonto HB0.out HB4.out)
     obtain ⟨q0, -, -⟩ := HT4.out.tm.cells
     have hXl : X.length = E.length := by have := HGR.out.tri.len; rwa [List.length_map] at this
     clear hall
     by_cases hdeep : 32 < dp
     ·have HBP := hid (show BP l 2 0 zeroT from .great HNE.out HGR.out.fine HNG.out (no_tree HCN.out HGR.out.tri.nd (fun q hq => HGR.out.any_ hq) (.inr (by
       rcases HDP.out.2 with h | ⟨e, he, h⟩
       ·omega
       ·exact ⟨e, he, by omega⟩))))
      clear hXl
      obtain ⟨u0, e0⟩ := R3.out.cell (o := 0) (by decide)
      obtain ⟨u1, e1⟩ := R3.out.cell (o := 1) (by decide)
      obtain ⟨u2, e2⟩ := R3.out.cell (o := 2) (by decide)
      obtain ⟨u3, e3⟩ := R3.out.cell (o := 3) (by decide)
      obtain ⟨u4, e4⟩ := R3.out.cell (o := 4) (by decide)
      have z0 := R3.out.frozen
      go_wp2_with fail
      refine bodyPost_ret (v := .tuple #[vv zeroT (.slice none 0 0) (.slice none 0 0), .int .i64 2, .int .i64 ((0 : Nat) : Int)]) (by simp [results, Tryz.results20, go_sem, vv, zeroT, VT.kd, VT.nm, VT.st, e0, e1, e2, e3, e4]) rfl ?_
      exact ⟨zeroT, _, _, 2, 0, rfl, HBP.out, hs_zero _ _, put5_bel HBW4.out (Nat.le_refl _)⟩
     ·by_cases hmany : 4096 < E.length
      ·have HBP := hid (show BP l 2 0 zeroT from .great HNE.out HGR.out.fine HNG.out (no_tree HCN.out HGR.out.tri.nd (fun q hq => HGR.out.any_ hq) (.inl (by omega))))
       clear hXl
       obtain ⟨u0, e0⟩ := R3.out.cell (o := 0) (by decide)
       obtain ⟨u1, e1⟩ := R3.out.cell (o := 1) (by decide)
       obtain ⟨u2, e2⟩ := R3.out.cell (o := 2) (by decide)
       obtain ⟨u3, e3⟩ := R3.out.cell (o := 3) (by decide)
       obtain ⟨u4, e4⟩ := R3.out.cell (o := 4) (by decide)
       have z0 := R3.out.frozen
       go_wp2_with fail
       refine bodyPost_ret (v := .tuple #[vv zeroT (.slice none 0 0) (.slice none 0 0), .int .i64 2, .int .i64 ((0 : Nat) : Int)]) (by simp [results, Tryz.results20, go_sem, vv, zeroT, VT.kd, VT.nm, VT.st, e0, e1, e2, e3, e4]) rfl ?_
       exact ⟨zeroT, _, _, 2, 0, rfl, HBP.out, hs_zero _ _, put5_bel HBW4.out (Nat.le_refl _)⟩
      ·have HVK := hid (show VK E M l X from ⟨HGR.out, HWELL.out, fun e he => by
        obtain ⟨k, hk⟩ := List.getElem?_of_mem he
        have := HDP.out.1 k e (by have := lt_of_some hk; have := HN.out; omega) hk
        omega, by omega, fun e he s hs => (HOK.out e he s hs).1⟩)
       have CV := hid (value_all W.heap.size (W.heap.size + 2) (W.heap.size + 1) g c E M l X (.slice ol l.length cl) HVK.out 32 0 [] rfl HGR.out.tri.root)
       have CV2 := hid (CV.out w4 HT4.out.tm (HLV.out.onto HBW4.out))
       rw [HN.out] at CV2
       clear hXl CV
       go_wp2_with fail
       go_at_call 51
       refine CV2.out.mono ?_
       rintro r w5 ⟨T, x, y, rfl, hsub, hhs, hb5⟩
       obtain ⟨ox, nx', cx, oy, ny, cy, rfl, rfl⟩ := hv_slices hhs.hv
       have hv5 := hhs.hv
       have R5 := hid (R3.out.onto (hb5.block _ R3.out.lt))
       have HB5 := hid (vonto HBW4.out hb5)
       have HTR := hid (sub_tree hsub)
       have HHS := hid hhs
       have HN4 := hid (show w.heap.size < w4.heap.size from R3.out.lt)
       have HV5 := hid hv5
       clear hsub hhs hb5 hv5 CV2 q0
       simp only [vv]
       go_upto_region 19 with fail
       refine cewp_gen ?_
       intro W6 hW
       have HB6 := hid (show Below w5.heap.size w5 W6 by rw [hW]; exact valloc_bel (Below.refl _ _) _)
       have v0 : W6.cell? ⟨w5.heap.size, 0, none⟩ = some (.int .i64 T.kd) := by rw [hW]; simp
       have v1 : W6.cell? ⟨w5.heap.size, 1, none⟩ = some (.int .i64 T.nm) := by rw [hW]; simp
       have v2 : W6.cell? ⟨w5.heap.size, 2, none⟩ = some (.string T.st) := by rw [hW]; simp
       have v3 : W6.cell? ⟨w5.heap.size, 3, none⟩ = some (.slice ox nx' cx) := by rw [hW]; simp
       have v4 : W6.cell? ⟨w5.heap.size, 4, none⟩ = some (.slice oy ny cy) := by rw [hW]; simp
       have HV6 := hid (HV5.out.onto HB6.out)
       have R6 := hid (R5.out.onto (HB6.out.block _ R5.out.lt))
       have CG := hid (vgood_any T _ _ W6 (HG.out.on (vonto HB5.out HB6.out)) HV6.out)
       obtain ⟨G, hG⟩ : ∃ G, mayB 0 1 T = G := ⟨_, rfl⟩
       rw [hG] at CG
       have HGG := hid hG
       simp only [vv] at CG
       clear hW hG
       go_wp2_with fail
       go_at_call 43
       refine CG.out.mono ?_
       rintro r w7 ⟨rfl, hb7⟩
       have v0 := keepCell hb7 v0
       have v1 := keepCell hb7 v1
       have v2 := keepCell hb7 v2
       have v3 := keepCell hb7 v3
       have v4 := keepCell hb7 v4
       have R3 := hid (R6.out.onto (hb7.block _ R6.out.lt))
       have HBW4 := hid (vonto (vonto HB5.out HB6.out) hb7)
       have HV7 := hid (HV6.out.onto hb7)
       have HB57 := hid (vonto HB6.out hb7)
       clear hb7 CG
       cases G with
       | false =>
        have HBP := hid (show BP l 2 0 zeroT from .great HNE.out HGR.out.fine HNG.out (by
         rintro ⟨T', h1, h2⟩
         have := HTR.out.one h1
         subst this
         rw [HGG.out] at h2; cases h2))
        obtain ⟨u0, e0⟩ := R3.out.cell (o := 0) (by decide)
        obtain ⟨u1, e1⟩ := R3.out.cell (o := 1) (by decide)
        obtain ⟨u2, e2⟩ := R3.out.cell (o := 2) (by decide)
        obtain ⟨u3, e3⟩ := R3.out.cell (o := 3) (by decide)
        obtain ⟨u4, e4⟩ := R3.out.cell (o := 4) (by decide)
        have z0 := R3.out.frozen
        go_wp2_with fail
        refine bodyPost_ret (v := .tuple #[vv zeroT (.slice none 0 0) (.slice none 0 0), .int .i64 2, .int .i64 ((0 : Nat) : Int)]) (by simp [results, Tryz.results20, go_sem, vv, zeroT, VT.kd, VT.nm, VT.st, e0, e1, e2, e3, e4]) rfl ?_
        exact ⟨zeroT, _, _, 2, 0, rfl, HBP.out, hs_zero _ _, put5_bel HBW4.out (Nat.le_refl _)⟩
       | true =>
        have HBP := hid (show BP l 0 0 T from .ok T HNE.out HGR.out.fine HNG.out HTR.out HGG.out)
        have HVZ := hid (fun (v0 v1 v2 v3 v4 : Value) => (show HS (put5 w7 w.heap.size 0 v0 v1 v2 v3 v4) (fun k => w.heap.size ≤ k ∧ k < (put5 w7 w.heap.size 0 v0 v1 v2 v3 v4).heap.size) T (.slice ox nx' cx) (.slice oy ny cy) from HHS.out.onto (fun k hk => (put5_heap w7 w.heap.size 0 v0 v1 v2 v3 v4 k (by have := hk.1; have := HN4.out; omega)).trans (HB57.out.block k hk.2)) (fun k hk => ⟨by have := hk.1; have := HN4.out; omega, by rw [put5_size]; exact Nat.lt_of_lt_of_le hk.2 HB57.out.size⟩)))
        obtain ⟨u0, e0⟩ := R3.out.cell (o := 0) (by decide)
        obtain ⟨u1, e1⟩ := R3.out.cell (o := 1) (by decide)
        obtain ⟨u2, e2⟩ := R3.out.cell (o := 2) (by decide)
        obtain ⟨u3, e3⟩ := R3.out.cell (o := 3) (by decide)
        obtain ⟨u4, e4⟩ := R3.out.cell (o := 4) (by decide)
        have z0 := R3.out.frozen
        go_wp2_with fail
        refine bodyPost_ret (v := .tuple #[vv T (.slice ox nx' cx) (.slice oy ny cy), .int .i64 0, .int .i64 ((0 : Nat) : Int)]) (by simp [results, Tryz.results20, go_sem, vv, e0, e1, e2, e3, e4]) rfl ?_
        exact ⟨T, _, _, 0, 0, rfl, HBP.out, HVZ.out _ _ _ _ _, put5_bel HBW4.out (Nat.le_refl _)⟩
end Go.Proofs.YteimbjamnfkapaaGreatDoor
