import Derived.Test.YtjcejjejlekelaaGreatDoorRef5P
import Derived.Deep.Onto
import Derived.Deep.Upon
import Derived.Lib.AppendZeros
import Derived.Deep.RegionLawGrows
import Derived.Test.YtjcejjejlekelaaGreatDoorRef5Set
/- The document's side: what is dropped at a path; where nothing stands there. -/
/- The document's side: what is dropped at a place of a list. -/
/- The document's side: what is dropped at a key. -/
/- The document's Set and Drop, at any path. -/
namespace Go.Proofs.YtjcejjejlekelaaGreatDoor
open Go.RowKit

/-- the two boxes of Drop: a tree, the result -/
structure D5 (w wr : World) (T : VT) (x y : Value) : Prop where
  node : Node wr ⟨w.heap.size, 0, none⟩ T x y
  zero : Z5 wr (w.heap.size + 1)
  bel : Below w.heap.size w wr
  big : w.heap.size + 2 ≤ wr.heap.size
theorem D5.onto {w wr wr' : World} {T : VT} {x y : Value} (h : D5 w wr T x y) (hb : Below (w.heap.size + 2) wr wr') : D5 w wr' T x y := by
  have h1 := h.big
  have h2 := hb.size
  exact ⟨h.node.eqs (hb.block _ (by show w.heap.size < _; omega)), z5_far h.zero (hb.block _ (by omega)), h.bel.trans (hb.mono (by omega)), by omega⟩
theorem D5.on {w wr wr' : World} {T : VT} {x y : Value} (h : D5 w wr T x y) (hb : Below wr.heap.size wr wr') : D5 w wr' T x y := h.onto (hb.mono h.big)
theorem d5_new (w : World) (T : VT) (x y : Value) : D5 w ((w.alloc (.cells #[.int .i64 T.kd, .int .i64 T.nm, .string T.st, x, y] 31)).alloc (.cells #[.int .i64 0, .int .i64 0, .string ⟨#[]⟩, .slice none 0 0, .slice none 0 0] 31)) T x y := by
  have h := twob_new w T x y
  exact ⟨h.node, h.zero, valloc_bel (valloc_bel (Below.refl _ _) _) _, by simp⟩
theorem drop_none : ∀ (p : List PStep) (T : VT), wfT T → getP T p = none → dropP T p = none
  | [], T, _, h => by simp [getP] at h
  | [s], T, hw, h => by
    rw [dropP_one]
    cases hi : idxT T s with
    | none => rfl
    | some i =>
      obtain ⟨t, ht⟩ := idx_kid ((wfT_eq T).1 hw).1 hi
      simp [getP, hi, ht] at h
  | s :: s' :: r, T, hw, h => by
    rw [dropP_cons T s (by simp)]
    cases hi : idxT T s with
    | none => rfl
    | some i =>
      obtain ⟨t, ht⟩ := idx_kid ((wfT_eq T).1 hw).1 hi
      simp only [ht]
      have hwt : wfT t := by
        obtain ⟨-, h1, h2⟩ := (wfT_eq T).1 hw
        unfold kidT at ht
        split at ht
        · exact (wfL_get _).1 h1 i t ht
        · exact (wfL_get _).1 h2 i t ht
      rw [drop_none (s' :: r) t hwt (by simpa only [getP, hi, ht, Option.bind_some] using h)]; rfl
theorem drop_some {T v : VT} {p : List PStep} (hp : p ≠ []) (h : getP T p = some v) : ∃ Z, dropP T p = some Z := by
  rcases List.eq_nil_or_concat p with rfl | ⟨r, s, rfl⟩
  · exact absurd rfl hp
  · rw [List.concat_eq_append] at h ⊢
    obtain ⟨U, i, -, -, h3⟩ := drop_there h
    exact ⟨_, h3⟩
theorem step_app5 {P : Program} {ops : Array Oper} {o : Oper} {a : Act} {w : World} {K : Act → World → Prop} {Q : Exit → Act → World → Prop} {E : Prop} (hgd : o.guard = none) (s x : Operand) (t : TypeId)
    (ho : o.op = .call { callee := .builtin .append, args := #[s, x], argTypes := #[t, t] }) (vs vx : Value) (hs : a.eval s = vs) (hx : a.eval x = vx)
    (v' : Value) (w' : World) (hr : (Builtin.append_ #[t, t] o.type #[vs, vx]).run P w = .ok v' w') (h : K (a.put o.dst v') w') : if Region.wanted o (yielded ops a.tmps) = true then Oper.wp P o a w K Q else E := by
  rw [if_pos (by simp [Region.wanted, hgd])]
  exact Lib.wp_append_run w s x t t ho vs vx hs hx v' w' hr h
theorem flat_cut : ∀ (E : List (VT × Value × Value)) (i : Nat), (E.flatMap vc).take (i * 5) = (E.take i).flatMap vc ∧ (E.flatMap vc).drop (i * 5) = (E.drop i).flatMap vc
  | [], i => by simp
  | e :: E, 0 => by simp
  | e :: E, i + 1 => by
    obtain ⟨h1, h2⟩ := flat_cut E i
    rw [show (i + 1) * 5 = i * 5 + 1 + 1 + 1 + 1 + 1 by omega]
    simp only [List.flatMap_cons, List.take_succ_cons, List.drop_succ_cons]
    unfold vc at h1 h2 ⊢
    simp only [List.cons_append, List.nil_append, List.take_succ_cons, List.drop_succ_cons]
    rw [h1, h2]
    exact ⟨rfl, rfl⟩
theorem vc_ones {w : World} {S : Nat → Prop} {E : List (VT × Value × Value)} (hE : ∀ e ∈ E, HS w S e.1 e.2.1 e.2.2) : ∀ u ∈ E.flatMap vc, u.oneCell' = true := by
  intro u hu
  obtain ⟨e, he, h⟩ := List.mem_flatMap.1 hu
  obtain ⟨o, n, c, o', n', c', h1, h2⟩ := hv_slices (hE e he).hv
  obtain ⟨t, x, y⟩ := e
  simp only at h1 h2
  subst h1 h2
  exact vc_one t _ _ _ _ _ _ u h
theorem map_erase {α β : Type} (f : α → β) (L : List α) (i : Nat) : (L.eraseIdx i).map f = (L.map f).eraseIdx i := by
  rw [List.eraseIdx_eq_take_drop_succ, List.eraseIdx_eq_take_drop_succ, List.map_append, List.map_take, List.map_drop]
theorem erase_cut {α : Type} (L : List α) (i : Nat) : L.eraseIdx i = L.take i ++ L.drop (i + 1) := List.eraseIdx_eq_take_drop_succ L i
/-- a copied row cut short by its last part -/
theorem copied_short {W : World} {lo g n c i : Nat} {L : List VT} {E : List (VT × Value × Value)} (hC : Copied W lo (.slice (some ⟨g, 0, none⟩) n c) L L.length E) (hi : L.length = i + 1) {Wf : World} {S : Nat → Prop} (hg : Wf.heap[g]? = W.heap[g]?) (hfar : ∀ k, lo ≤ k ∧ k < W.heap.size ∧ ¬ (Value.slice (some ⟨g, 0, none⟩) n c).ownBlock = some k → Wf.heap[k]? = W.heap[k]?) (hS : ∀ k, lo ≤ k ∧ k < W.heap.size → S k) : LS Wf S (L.eraseIdx i) (.slice (some ⟨g, 0, none⟩) i i) := by
  obtain ⟨h1, h2, h3, h4⟩ := hC
  rw [List.take_length] at h2
  obtain ⟨e1, e2, e3, e4, hrow⟩ := own_soft h3
  obtain ⟨f, q, hp⟩ := own_parts (by rw [h1]; exact h3) h4
  rw [h2] at hp
  have hl : (L.eraseIdx i).length = i := by rw [List.length_eraseIdx, if_pos (by omega)]; omega
  have hj : ∀ (j : Nat) (t : VT), (L.eraseIdx i)[j]? = some t → L[j]? = some t := by
    intro j t ht
    have := lt_of_some ht
    rw [List.getElem?_eraseIdx, if_pos (by omega)] at ht
    exact ht
  refine ⟨⟨g, 0, none⟩, f, q, ⟨_, i, by rw [hl], by rw [hl]; exact Nat.le_refl _, by omega, fun _ => rfl⟩, fun _ => hS _ ⟨e2, hrow.lt⟩, fun j t ht => ?_, fun j t ht => ?_⟩
  · rw [add_at]
    exact (hp j t (hj j t ht)).1.eqs hg
  · exact (hp j t (hj j t ht)).2.onto hfar (fun k hk => hS k ⟨hk.1, hk.2.1⟩)
theorem filt_erase (key : ByteArray) : ∀ (A : List (ByteArray × VT × Value × Value)) (i : Nat), firstI (keyIs key) (A.map (·.1)) = some i → Strict (A.map (·.1)) → A.filter (fun a => !keyIs key a.1) = A.eraseIdx i
  | [], i, h, _ => by simp [firstI] at h
  | a :: A, i, h, hs => by
    have hh := strict_head (by simpa using hs : Strict (a.1 :: A.map (·.1)))
    rw [List.map_cons, firstI] at h
    cases hk : keyIs key a.1 with
    | true =>
      rw [if_pos hk] at h
      injection h with h
      subst h
      rw [List.filter_cons_of_neg (by simp [hk]), List.eraseIdx_cons_zero, List.filter_eq_self]
      intro b hb
      have hlt := hh b.1 (List.mem_map_of_mem hb)
      cases hkb : keyIs key b.1 with
      | false => rfl
      | true =>
        unfold keyIs at hk hkb
        rw [decide_eq_true_eq] at hk hkb
        rw [hk, hkb, ltB_irr] at hlt; cases hlt
    | false =>
      rw [if_neg (by rw [hk]; decide)] at h
      cases hf : firstI (keyIs key) (A.map (·.1)) with
      | none => rw [hf] at h; cases h
      | some j =>
        rw [hf] at h
        simp only [Option.map_some] at h
        injection h with h
        subst h
        rw [List.filter_cons_of_pos (by simp [hk]), List.eraseIdx_cons_succ, filt_erase key A j hf (by have := hs; rw [List.map_cons] at this; exact this.tail)]
theorem HS.lsp {w : World} {S : Nat → Prop} {T : VT} {x y : Value} (h : HS w S T x y) : LS w S T.ls x := by
  cases h with
  | mk a b f g p q hk hn hs hL hM hK iL iM cL cK cM rL rM => exact ⟨a, f, g, hL, iL, cL, rL⟩
theorem drew_below (w : World) : Below w.heap.size w w.drew := (Below.refl _ _).drew
/-- Drop at a path, whatever the tree -/
def Drop5Ok (p : List PStep) : Prop := ∀ (T : VT) (x y v : Value) (w : World), plainT T = true → szT T ≤ 100000 → HV w T x y → InP w p v → (∀ s ∈ p, Frm s) → p.length ≤ 1000000 →
    Calls Tryz.prog 30 #[vv T x y, v] w fun e w' => Set5 (dropP T p) w e w'
set_option maxRecDepth 100000 in
set_option maxHeartbeats 4000000 in
theorem drop5_no (p : List PStep) (T : VT) (x y v : Value) (w : World) (hT : HV w T x y) (hp : InP w p v) (hf : ∀ s ∈ p, Frm s) (hl : p.length ≤ 1000000) (hn : getP T p = none ∨ p = []) :
    Calls Tryz.prog 30 #[vv T x y, v] w fun e w' => Set5 none w e w' := by
  obtain ⟨o1, n1, c1, o2, n2, c2, rfl, rfl⟩ := hv_slices hT
  have DS := hid (d5_new w T (.slice o1 n1 c1) (.slice o2 n2 c2))
  have CG := hid (get5_any T (.slice o1 n1 c1) (.slice o2 n2 c2) p v _ (hT.onto DS.out.bel) (hp.onto DS.out.bel) hf hl)
  obtain ⟨a, ⟨op, cp, rfl, hp1, hp2, hp3⟩, -⟩ := hp
  clear hT hf hp3 hp1 hp2
  simp only [vv] at CG ⊢
  go_enter Tryz.func30, Tryz.ntmps30
  go_wp2_with fail
  go_at_call 27
  refine CG.out.mono ?_
  rintro e wg ⟨R, X, Y, rfl, hR, hvR, hbg⟩
  obtain ⟨u1, v1, t1, u2, v2, t2, rfl, rfl⟩ := hv_slices hvR
  have hal := valloc_bel (Below.refl wg.heap.size wg) (.cells #[.int .i64 R.kd, .int .i64 R.nm, .string R.st, .slice u1 v1 t1, .slice u2 v2 t2] 31)
  have DS1 := hid ((DS.out.on hbg).on hal)
  clear CG DS hR hvR hbg hal
  obtain ⟨⟨q0, q1, q2, q3, q4⟩, qf⟩ := DS1.out.zero
  have HR := hid (z5_put DS1.out.zero zeroT (.slice none 0 0) (.slice none 0 0))
  simp only [put5, Nat.zero_add, zeroT, VT.kd, VT.nm, VT.st] at HR
  cases hg : getP T p with
  | none =>
    clear hn
    simp only [Option.isSome_none]
    go_wp2_with fail
    obtain ⟨r0, r1, r2, r3, r4⟩ := HR.out
    exact bodyPost_ret (v := .tuple #[vv zeroT (.slice none 0 0) (.slice none 0 0), .bool false]) (by simp [results, Tryz.results30, go_sem, vv, zeroT, VT.kd, VT.nm, VT.st, r0, r1, r2, r3, r4]) rfl ⟨zeroT, _, _, rfl, rfl, hs_zero _ _, box5_bel DS1.out.bel _ (by omega) _ _ _ _ _⟩
  | some t =>
    have hp0 : p = [] := by
      rcases hn with h | h
      · rw [hg] at h; cases h
      · exact h
    subst hp0
    clear hn
    simp only [Option.isSome_some, List.length_nil]
    go_wp2_with fail
    obtain ⟨r0, r1, r2, r3, r4⟩ := HR.out
    exact bodyPost_ret (v := .tuple #[vv zeroT (.slice none 0 0) (.slice none 0 0), .bool false]) (by simp [results, Tryz.results30, go_sem, vv, zeroT, VT.kd, VT.nm, VT.st, r0, r1, r2, r3, r4]) rfl ⟨zeroT, _, _, rfl, rfl, hs_zero _ _, box5_bel DS1.out.bel _ (by omega) _ _ _ _ _⟩
end Go.Proofs.YtjcejjejlekelaaGreatDoor
namespace Go.Proofs.YtjcejjejlekelaaGreatDoor
open Go.RowKit

set_option maxRecDepth 100000 in
set_option maxHeartbeats 4000000 in
theorem drop5_place (r : List PStep) (hih : Drop5Ok r) (i : Nat) (hi9 : i ≤ 1000000000) (T G : VT) (x y v : Value) (w : World) (hpl : plainT T = true) (hsz : szT T ≤ 100000) (hT : HV w T x y)
    (hp : InP w (⟨⟨#[]⟩, (i : Int), true⟩ :: r) v) (hf : ∀ q ∈ ⟨⟨#[]⟩, (i : Int), true⟩ :: r, Frm q) (hl : r.length + 1 ≤ 1000000) (hgs : getP T (⟨⟨#[]⟩, (i : Int), true⟩ :: r) = some G) :
    Calls Tryz.prog 30 #[vv T x y, v] w fun e w' => Set5 (dropP T (⟨⟨#[]⟩, (i : Int), true⟩ :: r)) w e w' := by
  have HIH := hid hih
  have HT := hid hT
  have HF := hid (fun q (hq : q ∈ r) => hf q (List.mem_cons_of_mem _ hq))
  have HPL := hid hpl
  have HP := hid hp
  obtain ⟨a, ⟨op, cp, rfl, hp1, hp2, hp3⟩, hpc⟩ := hp
  obtain rfl := hp3 (by simp)
  unfold maxLen at hp2
  obtain ⟨s0, s1, s2, skm⟩ := hpc 0 _ rfl
  rw [add_z5] at s0 s1 s2
  obtain ⟨aL, bM, f, g, pp, qq, o1, o2, c1, c2, rfl, rfl, -, -, hoL, hoM, hK, -, hLc, hMc, cLn, -, -, rL, -, -, -⟩ := HT.out.parts
  have CLN := hid cLn
  have RL := hid rL
  have HK := hid hK
  have SKM := hid skm
  have DS0 := hid (d5_new w T (.slice o1 T.ls.length c1) (.slice o2 T.vs.length c2))
  have CG := hid (get5_any T (.slice o1 T.ls.length c1) (.slice o2 T.vs.length c2) (⟨⟨#[]⟩, (i : Int), true⟩ :: r) _ _ (HT.out.onto DS0.out.bel) (HP.out.onto DS0.out.bel) hf hl)
  rw [hgs] at CG
  have HGS := hid hgs
  clear hih hT hf hpc hp3 hpl cLn rL hoM hMc hK hgs skm
  simp only [vv, Option.isSome_some, Option.getD_some] at CG ⊢
  simp only [List.length_cons] at hp1 CG ⊢
  go_enter Tryz.func30, Tryz.ntmps30
  go_wp2_with fail
  generalize ((w.alloc (.cells #[.int .i64 T.kd, .int .i64 T.nm, .string T.st, .slice o1 T.ls.length c1, .slice o2 T.vs.length c2] 31)).alloc (.cells #[.int .i64 0, .int .i64 0, .string ⟨#[]⟩, .slice none 0 0, .slice none 0 0] 31)) = W0 at DS0 CG ⊢
  go_at_call 27
  refine CG.out.mono ?_
  rintro e wg ⟨R, X, Y, rfl, hR, hvR, hbg⟩
  obtain ⟨u1, v1, t1, u2, v2, t2, rfl, rfl⟩ := hv_slices hvR
  have hal := valloc_bel (Below.refl wg.heap.size wg) (.cells #[.int .i64 R.kd, .int .i64 R.nm, .string R.st, .slice u1 v1 t1, .slice u2 v2 t2] 31)
  have DS1 := hid ((DS0.out.on hbg).on hal)
  have t0 := keepCell DS1.out.bel s0
  have t1' := keepCell DS1.out.bel s1
  have t2' := keepCell DS1.out.bel s2
  have hgl := (DS0.out.on hbg).big
  clear CG DS0 hR hvR hbg hal s0 s1 s2
  obtain ⟨b0, b1, b2, b3, b4⟩ := (DS1.out.on (valloc_bel (Below.refl _ _) (.cells #[.string ⟨#[]⟩, .int .i64 (i : Int), .bool true] 79))).node
  simp only [Nat.zero_add] at b0 b1 b2 b3 b4
  go_wp2_with fail
  clear b0 b1 b2 b3 b4
  have hsz1 := World.size_alloc wg (.cells #[.int .i64 R.kd, .int .i64 R.nm, .string R.st, .slice u1 v1 t1, .slice u2 v2 t2] 31)
  clear t0 t1' t2'
  generalize (wg.alloc (.cells #[.int .i64 R.kd, .int .i64 R.nm, .string R.st, .slice u1 v1 t1, .slice u2 v2 t2] 31)) = W1 at DS1 hsz1 ⊢
  have hal := valloc_bel (Below.refl W1.heap.size W1) (.cells #[.string ⟨#[]⟩, .int .i64 (i : Int), .bool true] 79)
  have hsb : Sb (W1.alloc (.cells #[.string ⟨#[]⟩, .int .i64 (i : Int), .bool true] 79)) (wg.heap.size + 1) ⟨⟨#[]⟩, (i : Int), true⟩ := by
    rw [← hsz1]; exact ⟨by simp, by simp, by simp⟩
  have DS2 := hid (DS1.out.on hal)
  have hsz2 : (W1.alloc (.cells #[.string ⟨#[]⟩, .int .i64 (i : Int), .bool true] 79)).heap.size = wg.heap.size + 2 := by rw [World.size_alloc, hsz1]
  generalize (W1.alloc (.cells #[.string ⟨#[]⟩, .int .i64 (i : Int), .bool true] 79)) = W2 at hsb DS2 hsz2 ⊢
  clear hal hsz1 DS1
  have CC := hid (rcopy2_any (szT T) T (Nat.le_refl _) (by omega) (.slice o1 T.ls.length c1) (.slice o2 T.vs.length c2) W2 (HT.out.onto DS2.out.bel))
  simp only [vv] at CC
  go_at_call 26
  refine CC.out.mono ?_
  rintro e w1 ⟨X, Y, rfl, hx, hb1, hco⟩
  obtain ⟨y1, z1, d1, y2, z2, d2, rfl, rfl⟩ := hv_slices hx.hv
  rw [hsz2] at hx hco
  have hs1 := hb1.size
  have hal := valloc_bel (Below.refl w1.heap.size w1) (.cells #[.int .i64 T.kd, .int .i64 T.nm, .string T.st, .slice y1 z1 d1, .slice y2 z2 d2] 31)
  have ST2 := hid ((DS2.out.on hb1).on hal)
  have SB2 := hid ((hsb.onto hb1).onto hal)
  have CB2 := hid (bx_new hx.hv 31)
  have CR2 := hid (Row.new w1 #[.int .i64 T.kd, .int .i64 T.nm, .string T.st, .slice y1 z1 d1, .slice y2 z2 d2] 31)
  have CO2 := hid (fun (h : T.vs.length = 0) => by obtain ⟨E, h1, h2⟩ := hco h; have h1 := h1.wide (lo' := wg.heap.size + 2) (by omega); exact (⟨E, h1.on hal, h2, h1⟩ : ∃ E, Copied _ (wg.heap.size + 2) (.slice y1 z1 d1) T.ls T.ls.length E ∧ Value.slice y2 z2 d2 = .slice none 0 0 ∧ Copied w1 (wg.heap.size + 2) (.slice y1 z1 d1) T.ls T.ls.length E))
  have CS2 := hid (HS.onto (S' := fun k => wg.heap.size + 2 ≤ k ∧ k < w1.heap.size) hx (fun k hk => hal.block k hk.2) (fun k hk => hk))
  have hsz3 := World.size_alloc w1 (.cells #[.int .i64 T.kd, .int .i64 T.nm, .string T.st, .slice y1 z1 d1, .slice y2 z2 d2] 31)
  have hlo1 : wg.heap.size + 2 ≤ w1.heap.size := by omega
  clear hco CC hx DS2 hsb hb1 hal hs1 hsz2
  have f2 := SB2.out.c2
  obtain ⟨i', t, hidx, hkid, hgt⟩ := get_head HGS.out
  have hin : T.kd = 5 ∧ i' = i ∧ i < T.ls.length := by
    unfold idxT at hidx
    rw [if_pos rfl] at hidx
    split at hidx
    · rename_i h
      injection hidx with hidx
      simp only at hidx h
      exact ⟨h.1, by omega, by omega⟩
    · cases hidx
  obtain ⟨h5, rfl, hlt⟩ := hin
  have ht : T.ls[i']? = some t := by unfold kidT at hkid; rw [if_pos rfl] at hkid; exact hkid
  have HVS := hid (show T.vs.length = 0 by rw [(plain_list HPL.out h5).2.2]; rfl)
  obtain rfl := hoL (by omega)
  obtain ⟨E, hC2, hY, hC1⟩ := CO2.out HVS.out
  have HYN := hid hY
  have HC2 := hid hC2
  have HC1 := hid hC1
  have H5 := hid h5
  clear hC2 hC1 CO2 hY h5
  obtain ⟨gr, hgr1, hgr2⟩ : ∃ gr, y1 = some ⟨gr, 0, none⟩ ∧ z1 = T.ls.length := by
    rcases HC2.out.2.2.1 with ⟨-, ⟨h, h0⟩ | ⟨gr, cap, cur, e, -⟩⟩
    · omega
    · injection e with e1 e2 e3; exact ⟨gr, e1, e2⟩
  subst hgr1 hgr2
  have hgl1 : wg.heap.size + 2 ≤ gr ∧ gr < w1.heap.size := World.ownsRow.lt HC1.out.2.2.1 gr rfl
  obtain ⟨-, hgb, hnd, hdm, hrow⟩ := own_soft HC2.out.2.2.1
  have HROW := hid hrow
  unfold maxLen at hdm
  clear hrow
  by_cases hr0 : r = []
  · subst hr0
    simp only [List.length_nil] at hl hp1 ⊢
    go_upto_region 14 with fail
    have hXB := hid (fun k hk => Below.heap_alloc w1 (.cells #[.int .i64 T.kd, .int .i64 T.nm, .string T.st, .slice (some ⟨gr, 0, none⟩) T.ls.length d1, .slice y2 z2 d2] 31) k hk)
    generalize (w1.alloc (.cells #[.int .i64 T.kd, .int .i64 T.nm, .string T.st, .slice (some ⟨gr, 0, none⟩) T.ls.length d1, .slice y2 z2 d2] 31)) = W2 at ST2 SB2 CB2 CR2 HC2 HROW CS2 hsz3 f2 hXB ⊢
    have f1 := SB2.out.c1
    have c3 := CB2.out.cells.2.2.2.1
    have HDR : Hid (dropP T [⟨⟨#[]⟩, (i' : Int), true⟩] = some (delT T ⟨⟨#[]⟩, (i' : Int), true⟩ i')) := hid (by rw [dropP_one, hidx])
    have HSZ := hid hsz3
    have HKEEP : Hid (∀ X : World, (∀ k, k < W2.heap.size → X.heap[k]? = W2.heap[k]?) → X.cell? ⟨w1.heap.size, 3, none⟩ = some (.slice (some ⟨gr, 0, none⟩) T.ls.length d1) ∧ X.cell? ⟨wg.heap.size + 1, 1, none⟩ = some (.int .i64 (i' : Int))) := hid (by
      intro X hX
      have q1 : ∀ (b o : Nat), b < W2.heap.size → X.cell? ⟨b, o, none⟩ = W2.cell? ⟨b, o, none⟩ := fun b o h1 => World.cell?_of_block (w := W2) (hX b h1)
      exact ⟨(q1 _ 3 (by omega)).trans c3, (q1 _ 1 (by omega)).trans f1⟩)
    clear hsz3 c3 f1 f2
    obtain ⟨i0, hi, hz0, hz1, hz2⟩ := info_parts Tryz.info27
    have hs1 : (i' : Int) ≤ (d1 : Int) := by omega
    have hs2 : (i' : Int) + 1 ≤ (T.ls.length : Int) := by omega
    have hs3 : ¬ (i' : Int) < 0 := by omega
    have hs4 : (0 : Int) ≤ (i' : Int) := by omega
    have hs5 : (0 : Int) ≤ (i' : Int) + 1 := by omega
    have hwr : IntKind.i64.wrap ((i' : Int) + 1) = (i' : Int) + 1 := by rw [IntKind.wrap_i64]; omega
    have htn : ((i' : Int) + 1).toNat = i' + 1 := by omega
    refine wp_region_ends2 (S := fun X => X.cell? ⟨w1.heap.size, 3, none⟩ = some (.slice (some ⟨gr, 0, none⟩) T.ls.length d1) ∧ X.cell? ⟨wg.heap.size + 1, 1, none⟩ = some (.int .i64 (i' : Int))) (by simp) (by kernel_rfl) (by kernel_rfl) (by kernel_rfl) (by kernel_rfl) (by kernel_rfl) (by kernel_rfl) ?_
    simp only [List.dropLast, List.getLast_cons_cons, List.getLast_singleton, List.length_cons, List.length_nil]
    have hS0 := HKEEP.out W2.drew (fun _ _ => rfl)
    refine take_h (i := 0) (v := ?_) rfl (by kernel_rfl) (by kernel_rfl) (by kernel_rfl) (fun _ _ _ h => h) (by rfl) ?_ hS0 ?_
    rotate_left
    · (intro X hX; go_simp; try with_reducible rfl)
    simp only [Act.put, List.setIfInBounds_toArray, List.set_cons_zero, List.set_cons_succ]
    refine take_h (i := 1) (v := ?_) rfl (by kernel_rfl) (by kernel_rfl) (by kernel_rfl) (fun _ _ _ h => h) (by rfl) ?_ hS0 ?_
    rotate_left
    · (intro X hX; go_simp; try with_reducible rfl)
    simp only [Act.put, List.setIfInBounds_toArray, List.set_cons_zero, List.set_cons_succ]
    refine take_h (i := 2) (v := ?_) rfl (by kernel_rfl) (by kernel_rfl) (by kernel_rfl) (fun _ _ _ h => h) (by rfl) ?_ hS0 ?_
    rotate_left
    · (intro X hX; go_simp; try with_reducible rfl)
    simp only [Act.put, List.setIfInBounds_toArray, List.set_cons_zero, List.set_cons_succ]
    refine take_h (i := 3) (v := ?_) rfl (by kernel_rfl) (by kernel_rfl) (by kernel_rfl) (fun _ _ _ h => h) (by rfl) ?_ hS0 ?_
    rotate_left
    · (intro X hX; go_simp; try with_reducible rfl)
    simp only [Act.put, List.setIfInBounds_toArray, List.set_cons_zero, List.set_cons_succ]
    refine take_h (i := 4) (v := ?_) rfl (by kernel_rfl) (by kernel_rfl) (by kernel_rfl) (fun _ _ _ h => h) (by rfl) ?_ hS0 ?_
    rotate_left
    · (intro X hX; go_simp; try with_reducible rfl)
    simp only [Act.put, List.setIfInBounds_toArray, List.set_cons_zero, List.set_cons_succ]
    refine take_h (i := 5) (v := ?_) rfl (by kernel_rfl) (by kernel_rfl) (by kernel_rfl) (fun _ _ _ h => h) (by rfl) ?_ hS0 ?_
    rotate_left
    · (intro X hX; go_simp; try with_reducible rfl)
    simp only [Act.put, List.setIfInBounds_toArray, List.set_cons_zero, List.set_cons_succ]
    refine take_h (i := 6) (v := ?_) rfl (by kernel_rfl) (by kernel_rfl) (by kernel_rfl) (fun _ _ _ h => h) (by rfl) ?_ hS0 ?_
    rotate_left
    · (intro X hX; go_simp; try with_reducible rfl)
    simp only [Act.put, List.setIfInBounds_toArray, List.set_cons_zero, List.set_cons_succ]
    refine take_h (i := 7) (v := ?_) rfl (by kernel_rfl) (by kernel_rfl) (by kernel_rfl) (fun _ _ _ h => h) (by rfl) ?_ hS0 ?_
    rotate_left
    · (intro X hX; go_simp; try with_reducible rfl)
    simp only [Act.put, List.setIfInBounds_toArray, List.set_cons_zero, List.set_cons_succ]
    refine take_h (i := 8) (v := ?_) rfl (by kernel_rfl) (by kernel_rfl) (by kernel_rfl) (fun _ _ _ h => h) (by rfl) ?_ hS0 ?_
    rotate_left
    · (intro X hX; go_simp; try with_reducible rfl)
    simp only [Act.put, List.setIfInBounds_toArray, List.set_cons_zero, List.set_cons_succ]
    refine take_h (i := 9) (v := ?_) rfl (by kernel_rfl) (by kernel_rfl) (by kernel_rfl) (fun _ _ _ h => h) (by rfl) ?_ hS0 ?_
    rotate_left
    · (intro X hX; go_simp; try with_reducible rfl)
    simp only [Act.put, List.setIfInBounds_toArray, List.set_cons_zero, List.set_cons_succ]
    refine take_h (i := 10) (v := ?_) rfl (by kernel_rfl) (by kernel_rfl) (by kernel_rfl) (fun _ _ _ h => h) (by rfl) ?_ hS0 ?_
    rotate_left
    · (intro X hX; go_simp; try with_reducible rfl)
    simp only [Act.put, List.setIfInBounds_toArray, List.set_cons_zero, List.set_cons_succ]
    refine take_h (i := 11) (v := ?_) rfl (by kernel_rfl) (by kernel_rfl) (by kernel_rfl) (fun _ _ _ h => h) (by rfl) ?_ hS0 ?_
    rotate_left
    · (intro X hX; go_simp; try with_reducible rfl)
    simp only [Act.put, List.setIfInBounds_toArray, List.set_cons_zero, List.set_cons_succ]
    refine take_h (i := 12) (v := ?_) rfl (by kernel_rfl) (by kernel_rfl) (by kernel_rfl) (fun _ _ _ h => h) (by rfl) ?_ hS0 ?_
    rotate_left
    · (intro X hX; go_simp; try with_reducible rfl)
    simp only [Act.put, List.setIfInBounds_toArray, List.set_cons_zero, List.set_cons_succ]
    by_cases hlast : T.ls.length = i' + 1
    · have hm : T.ls.length - (i' + 1) = 0 := by omega
      obtain ⟨aq, haq⟩ : ∃ aq, (if d1 = i' + 1 then some (⟨gr, 0, none⟩ : Addr) else some ⟨gr, (i' + 1) * 5, none⟩) = some aq := by split <;> exact ⟨_, rfl⟩
      simp only [hm, haq]
      have HLA := hid hlast
      clear hm haq hlast
      refine step_h (i := 13) rfl (by kernel_rfl) ?_
      intro KK hKK
      refine step_app5 (by rfl) _ _ _ (by rfl) _ _ (by rfl) (by rfl) _ _ (run_append_nothing (P := Tryz.prog) W2.drew 28 28 _ 31 i0 Tryz.underlying28 hi _ i' i' (Nat.le_refl _) _ (Src.ofSlice W2.drew Tryz.underlying28 aq 0 _ [] (by simp) (fun j u h => by simp at h) (by simp))) ?_
      refine hKK.out _ _ hS0 (fun _ => ?_)
      clear hKK KK
      simp only [Act.put, List.setIfInBounds_toArray, List.set_cons_zero, List.set_cons_succ]
      refine take_h (i := 14) (v := ?_) rfl (by kernel_rfl) (by kernel_rfl) (by kernel_rfl) (fun _ _ _ h => h) (by rfl) ?_ hS0 ?_
      rotate_left
      · (intro X hX; go_simp; try with_reducible rfl)
      simp only [Act.put, List.setIfInBounds_toArray, List.set_cons_zero, List.set_cons_succ]
      have y5 := CB2.out.cells.2.2.2.1
      have zf := CR2.out.frozen
      clear hS0
      refine wpAnyH_done (by kernel_rfl) ?_ _
      change Oper.wp _ _ _ _ _ _
      go_simp
      have hw2 := HSZ.out
      have HNZ : Hid (Z5 ((W2.setCell ⟨w1.heap.size, 3, none⟩ (.slice (some ⟨gr, 0, none⟩) i' i')).drew) (w.heap.size + 1)) := hid (z5_far (ST2.out).zero (Below.heap_setCell W2 ⟨w1.heap.size, 3, none⟩ (.slice (some ⟨gr, 0, none⟩) i' i') (w.heap.size + 1) (by show _ ≠ w1.heap.size; omega)))
      have cb : ∀ o, W2.cell? ⟨w1.heap.size, o, none⟩ = W2.cell? ⟨w1.heap.size, o, none⟩ := fun o => rfl
      obtain ⟨g0, g1, g2, g3, g4⟩ := CB2.out.cells
      have n0 : ((W2.setCell ⟨w1.heap.size, 3, none⟩ (.slice (some ⟨gr, 0, none⟩) i' i')).drew).cell? ⟨w1.heap.size, 0, none⟩ = _ := (set_other W2 w1.heap.size w1.heap.size 3 0 (.slice (some ⟨gr, 0, none⟩) i' i') (Or.inr (by omega))).trans ((cb 0).trans g0)
      have n1 : ((W2.setCell ⟨w1.heap.size, 3, none⟩ (.slice (some ⟨gr, 0, none⟩) i' i')).drew).cell? ⟨w1.heap.size, 1, none⟩ = _ := (set_other W2 w1.heap.size w1.heap.size 3 1 (.slice (some ⟨gr, 0, none⟩) i' i') (Or.inr (by omega))).trans ((cb 1).trans g1)
      have n2 : ((W2.setCell ⟨w1.heap.size, 3, none⟩ (.slice (some ⟨gr, 0, none⟩) i' i')).drew).cell? ⟨w1.heap.size, 2, none⟩ = _ := (set_other W2 w1.heap.size w1.heap.size 3 2 (.slice (some ⟨gr, 0, none⟩) i' i') (Or.inr (by omega))).trans ((cb 2).trans g2)
      have n3 : ((W2.setCell ⟨w1.heap.size, 3, none⟩ (.slice (some ⟨gr, 0, none⟩) i' i')).drew).cell? ⟨w1.heap.size, 3, none⟩ = _ := set_same (show Row W2 w1.heap.size 31 5 from CR2.out) (o := 3) (by decide) (.slice (some ⟨gr, 0, none⟩) i' i')
      have n4 : ((W2.setCell ⟨w1.heap.size, 3, none⟩ (.slice (some ⟨gr, 0, none⟩) i' i')).drew).cell? ⟨w1.heap.size, 4, none⟩ = _ := (set_other W2 w1.heap.size w1.heap.size 3 4 (.slice (some ⟨gr, 0, none⟩) i' i') (Or.inr (by omega))).trans ((cb 4).trans g4)
      have hB4 : Below w.heap.size w ((W2.setCell ⟨w1.heap.size, 3, none⟩ (.slice (some ⟨gr, 0, none⟩) i' i')).drew) := Below.drew (vset_bel ST2.out.bel (by show w.heap.size ≤ w1.heap.size; have := ST2.out.big; omega))
      have hF4 : Hid (∀ k, ¬ k = w1.heap.size → ((W2.setCell ⟨w1.heap.size, 3, none⟩ (.slice (some ⟨gr, 0, none⟩) i' i')).drew).heap[k]? = W2.heap[k]?) := hid (fun k (hk : ¬ k = w1.heap.size) => Below.heap_setCell W2 ⟨w1.heap.size, 3, none⟩ (.slice (some ⟨gr, 0, none⟩) i' i') k hk)
      have hs4 : ((W2.setCell ⟨w1.heap.size, 3, none⟩ (.slice (some ⟨gr, 0, none⟩) i' i')).drew).heap.size = W2.heap.size := by simp
      clear y5 zf g0 g1 g2 g3 g4 cb
      generalize ((W2.setCell ⟨w1.heap.size, 3, none⟩ (.slice (some ⟨gr, 0, none⟩) i' i')).drew) = W4 at HNZ n0 n1 n2 n3 n4 hB4 hF4 hs4 ⊢
      obtain ⟨⟨q0, q1, q2, q3, q4⟩, qf⟩ := HNZ.out
      go_wp2_with fail
      obtain ⟨r0, r1, r2, r3, r4⟩ := z5_put HNZ.out T (.slice (some ⟨gr, 0, none⟩) i' i') (.slice y2 z2 d2)
      simp only [put5, Nat.zero_add] at r0 r1 r2 r3 r4
      have hae : (delT T ⟨⟨#[]⟩, (i' : Int), true⟩ i').kd = T.kd ∧ (delT T ⟨⟨#[]⟩, (i' : Int), true⟩ i').nm = T.nm ∧ (delT T ⟨⟨#[]⟩, (i' : Int), true⟩ i').st = T.st ∧ (delT T ⟨⟨#[]⟩, (i' : Int), true⟩ i').ls = T.ls.eraseIdx i' ∧ (delT T ⟨⟨#[]⟩, (i' : Int), true⟩ i').ks = T.ks ∧ (delT T ⟨⟨#[]⟩, (i' : Int), true⟩ i').vs = T.vs := by cases T; exact ⟨rfl, rfl, rfl, rfl, rfl, rfl⟩
      obtain ⟨a0, a1, a2, a3, a4, a5⟩ := hae
      have hV0 : T.vs = [] := List.eq_nil_of_length_eq_zero HVS.out
      have hK0 : T.ks = [] := List.eq_nil_of_length_eq_zero ((hv_ks HT.out).trans HVS.out)
      have hbg := ST2.out.big
      have hff : ∀ k, k < w1.heap.size → wg.heap.size + 2 ≤ k → True ∨ True → (put5 W4 (w.heap.size + 1) 0 (.int .i64 T.kd) (.int .i64 T.nm) (.string T.st) (.slice (some ⟨gr, 0, none⟩) i' i') (.slice y2 z2 d2)).heap[k]? = w1.heap[k]? := fun k h1 h2 _ => (put5_heap _ _ _ _ _ _ _ _ _ (by omega)).trans ((hF4.out k (by omega)).trans (hXB.out k h1))
      refine bodyPost_ret (v := .tuple #[vv (delT T ⟨⟨#[]⟩, (i' : Int), true⟩ i') (.slice (some ⟨gr, 0, none⟩) i' i') (.slice y2 z2 d2), .bool true]) (by simp [results, Tryz.results30, go_sem, vv, a0, a1, a2, r0, r1, r2, r3, r4]) rfl ⟨delT T ⟨⟨#[]⟩, (i' : Int), true⟩ i', _, _, by rw [HDR.out]; rfl, by rw [HDR.out]; rfl, ?_, box5_bel hB4 _ (by omega) _ _ _ _ _⟩
      change HS (put5 W4 (w.heap.size + 1) 0 (.int .i64 T.kd) (.int .i64 T.nm) (.string T.st) (.slice (some ⟨gr, 0, none⟩) i' i') (.slice y2 z2 d2)) (fun k => w.heap.size ≤ k ∧ k < (put5 W4 (w.heap.size + 1) 0 (.int .i64 T.kd) (.int .i64 T.nm) (.string T.st) (.slice (some ⟨gr, 0, none⟩) i' i') (.slice y2 z2 d2)).heap.size) _ _ _
      rw [put5_size, hs4]
      refine hs_of (by rw [a0, a1, a2]; exact HT.out.wfs) (by
        rw [a3]
        exact copied_short HC1.out HLA.out (hff gr (by omega) (by omega) (Or.inl trivial)) (fun k hk => hff k (by omega) (by omega) (Or.inl trivial)) (fun k hk => ⟨by omega, by omega⟩)) (by
        rw [a4, a5, hV0, hK0, HYN.out]
        exact ms_nil _ _)

    · have hmp : 0 < T.ls.length - (i' + 1) := by omega
      have hdne : ¬ d1 = i' + 1 := by omega
      simp only [if_neg hdne]
      have hE := HC2.out.1
      have hlL : T.ls.length ≤ 1000000 := by have := (len_sz T).1; omega
      have hfl : (E.flatMap vc).length = T.ls.length * 5 := HC2.out.2.2.1.1
      have hcl : ∀ (j : Nat) (u : Value), (E.flatMap vc)[j]? = some u → W2.cell? ⟨gr, j, none⟩ = some u := fun j u hu => by
        have := HC2.out.2.2.1.cellAt j (by have := lt_of_some hu; omega)
        rw [this]; exact hu
      refine step_h (i := 13) rfl (by kernel_rfl) ?_
      intro KK hKK
      refine step_append_grows (by rfl) _ _ _ (by rfl) 31 i0 (.agg #[.int .i64 0, .int .i64 0, .string ⟨#[]⟩, .slice none 0 0, .slice none 0 0]) 5 80 Tryz.underlying28 hi hz0 hz1 hz2 rfl (by decide) (some ⟨gr, 0, none⟩) i' i' ((E.flatMap vc).take (i' * 5)) (by rfl) (fun h => by cases h) (by rw [List.length_take, hfl]; omega) (fun b hb j u hu => ?_) ⟨gr, (i' + 1) * 5, none⟩ (T.ls.length - (i' + 1)) _ ((E.flatMap vc).drop ((i' + 1) * 5)) (by rfl) (by rw [List.length_drop, hfl]; omega) (fun j u hu => ?_) (fun u hu => vc_ones HC2.out.2.2.2 u (List.mem_of_mem_drop hu)) (by omega) (by unfold maxLen; omega) (by omega) ?_
      · injection hb with hb
        subst hb
        rw [add_at]
        have hj := lt_of_some hu
        rw [List.length_take, hfl] at hj
        rw [List.getElem?_take, if_pos (by omega)] at hu
        exact hcl j u hu
      · have e : Addr.add ⟨gr, (i' + 1) * 5, none⟩ j = ⟨gr, (i' + 1) * 5 + j, none⟩ := by unfold Addr.add; split <;> simp_all
        rw [e]
        rw [List.getElem?_drop] at hu
        exact hcl _ u hu
      intro v' w3 hown3 hgr3
      have hown3' : w3.ownsRow W2.heap.size 31 5 v' (E.eraseIdx i').length ((E.eraseIdx i').flatMap vc) := by
        have : (E.eraseIdx i').length = i' + (T.ls.length - (i' + 1)) := by rw [List.length_eraseIdx, hE, if_pos hlt]; omega
        rw [this, erase_cut, List.flatMap_append, ← (flat_cut E i').1, ← (flat_cut E (i' + 1)).2]
        exact hown3
      obtain ⟨g', cap', rfl⟩ : ∃ g' cap', v' = .slice (some ⟨g', 0, none⟩) (i' + (T.ls.length - (i' + 1))) cap' := by
        rcases hown3 with ⟨-, ⟨h, h0⟩ | ⟨g', cap', cur, e, -⟩⟩
        · omega
        · exact ⟨g', cap', e⟩
      have hg3 := (World.ownsRow.lt hown3' g' rfl)
      have hK3 : ∀ k, k < W2.heap.size → w3.heap[k]? = W2.heap[k]? := fun k hk => hgr3.block k hk (fun h => by cases h)
      have hs3 := hgr3.size
      replace hs3 : W2.heap.size ≤ w3.heap.size := hs3
      have hS1 := HKEEP.out w3 hK3
      refine hKK.out _ _ hS1 (fun _ => ?_)
      clear hKK KK hS0
      simp only [Act.put, List.setIfInBounds_toArray, List.set_cons_zero, List.set_cons_succ]
      refine take_h (i := 14) (v := ?_) rfl (by kernel_rfl) (by kernel_rfl) (by kernel_rfl) (fun _ _ _ h => h) (by rfl) ?_ hS1 ?_
      rotate_left
      · (intro X hX; go_simp; try with_reducible rfl)
      simp only [Act.put, List.setIfInBounds_toArray, List.set_cons_zero, List.set_cons_succ]
      have hw9 := HSZ.out
      have y5 := (World.cell?_of_block (w := W2) (a := ⟨w1.heap.size, 3, none⟩) (hK3 _ (by show w1.heap.size < _; omega))).trans CB2.out.cells.2.2.2.1
      have zf := (CR2.out.onto (hK3 _ (by omega))).frozen
      have HB3 := hid (show Below W2.heap.size W2 w3 from (Below.refl W2.heap.size W2).drew.grown hgr3 (Nat.le_refl _) (fun q hq => by cases hq))
      have HO3 := hid hown3'
      clear hS1 hw9 hown3 hown3' hgr3
      generalize (i' + (T.ls.length - (i' + 1))) = n' at HO3 ⊢
      refine wpAnyH_done (by kernel_rfl) ?_ _
      change Oper.wp _ _ _ _ _ _
      go_simp
      have hw2 := HSZ.out
      have hw3s := HB3.out.size
      have HNZ : Hid (Z5 (w3.setCell ⟨w1.heap.size, 3, none⟩ (.slice (some ⟨g', 0, none⟩) n' cap')) (w.heap.size + 1)) := hid (z5_far ((ST2.out.on HB3.out)).zero (Below.heap_setCell w3 ⟨w1.heap.size, 3, none⟩ (.slice (some ⟨g', 0, none⟩) n' cap') (w.heap.size + 1) (by show _ ≠ w1.heap.size; omega)))
      have cb : ∀ o, w3.cell? ⟨w1.heap.size, o, none⟩ = W2.cell? ⟨w1.heap.size, o, none⟩ := fun o => World.cell?_of_block (w := W2) (hK3 _ (by show w1.heap.size < _; omega))
      obtain ⟨g0, g1, g2, g3, g4⟩ := CB2.out.cells
      have n0 : (w3.setCell ⟨w1.heap.size, 3, none⟩ (.slice (some ⟨g', 0, none⟩) n' cap')).cell? ⟨w1.heap.size, 0, none⟩ = _ := (set_other w3 w1.heap.size w1.heap.size 3 0 (.slice (some ⟨g', 0, none⟩) n' cap') (Or.inr (by omega))).trans ((cb 0).trans g0)
      have n1 : (w3.setCell ⟨w1.heap.size, 3, none⟩ (.slice (some ⟨g', 0, none⟩) n' cap')).cell? ⟨w1.heap.size, 1, none⟩ = _ := (set_other w3 w1.heap.size w1.heap.size 3 1 (.slice (some ⟨g', 0, none⟩) n' cap') (Or.inr (by omega))).trans ((cb 1).trans g1)
      have n2 : (w3.setCell ⟨w1.heap.size, 3, none⟩ (.slice (some ⟨g', 0, none⟩) n' cap')).cell? ⟨w1.heap.size, 2, none⟩ = _ := (set_other w3 w1.heap.size w1.heap.size 3 2 (.slice (some ⟨g', 0, none⟩) n' cap') (Or.inr (by omega))).trans ((cb 2).trans g2)
      have n3 : (w3.setCell ⟨w1.heap.size, 3, none⟩ (.slice (some ⟨g', 0, none⟩) n' cap')).cell? ⟨w1.heap.size, 3, none⟩ = _ := set_same (show Row w3 w1.heap.size 31 5 from CR2.out.onto (hK3 _ (by omega))) (o := 3) (by decide) (.slice (some ⟨g', 0, none⟩) n' cap')
      have n4 : (w3.setCell ⟨w1.heap.size, 3, none⟩ (.slice (some ⟨g', 0, none⟩) n' cap')).cell? ⟨w1.heap.size, 4, none⟩ = _ := (set_other w3 w1.heap.size w1.heap.size 3 4 (.slice (some ⟨g', 0, none⟩) n' cap') (Or.inr (by omega))).trans ((cb 4).trans g4)
      have hB4 : Below w.heap.size w (w3.setCell ⟨w1.heap.size, 3, none⟩ (.slice (some ⟨g', 0, none⟩) n' cap')) := (vset_bel (vonto ST2.out.bel HB3.out) (by show w.heap.size ≤ w1.heap.size; have := ST2.out.big; omega))
      have hF4 : Hid (∀ k, ¬ k = w1.heap.size → (w3.setCell ⟨w1.heap.size, 3, none⟩ (.slice (some ⟨g', 0, none⟩) n' cap')).heap[k]? = w3.heap[k]?) := hid (fun k (hk : ¬ k = w1.heap.size) => Below.heap_setCell w3 ⟨w1.heap.size, 3, none⟩ (.slice (some ⟨g', 0, none⟩) n' cap') k hk)
      have hs4 : (w3.setCell ⟨w1.heap.size, 3, none⟩ (.slice (some ⟨g', 0, none⟩) n' cap')).heap.size = w3.heap.size := by simp
      have HO4 := hid (own_far HO3.out w1.heap.size 3 (.slice (some ⟨g', 0, none⟩) n' cap') (fun g hg => by simp [Value.ownBlock] at hg; subst hg; omega))
      clear y5 zf g0 g1 g2 g3 g4 cb
      generalize (w3.setCell ⟨w1.heap.size, 3, none⟩ (.slice (some ⟨g', 0, none⟩) n' cap')) = W4 at HNZ n0 n1 n2 n3 n4 hB4 hF4 hs4 HO4 ⊢
      obtain ⟨⟨q0, q1, q2, q3, q4⟩, qf⟩ := HNZ.out
      go_wp2_with fail
      obtain ⟨r0, r1, r2, r3, r4⟩ := z5_put HNZ.out T (.slice (some ⟨g', 0, none⟩) n' cap') (.slice y2 z2 d2)
      simp only [put5, Nat.zero_add] at r0 r1 r2 r3 r4
      have hae : (delT T ⟨⟨#[]⟩, (i' : Int), true⟩ i').kd = T.kd ∧ (delT T ⟨⟨#[]⟩, (i' : Int), true⟩ i').nm = T.nm ∧ (delT T ⟨⟨#[]⟩, (i' : Int), true⟩ i').st = T.st ∧ (delT T ⟨⟨#[]⟩, (i' : Int), true⟩ i').ls = T.ls.eraseIdx i' ∧ (delT T ⟨⟨#[]⟩, (i' : Int), true⟩ i').ks = T.ks ∧ (delT T ⟨⟨#[]⟩, (i' : Int), true⟩ i').vs = T.vs := by cases T; exact ⟨rfl, rfl, rfl, rfl, rfl, rfl⟩
      obtain ⟨a0, a1, a2, a3, a4, a5⟩ := hae
      have hV0 : T.vs = [] := List.eq_nil_of_length_eq_zero HVS.out
      have hK0 : T.ks = [] := List.eq_nil_of_length_eq_zero ((hv_ks HT.out).trans HVS.out)
      have hbg := ST2.out.big
      have hff : ∀ k, k < w1.heap.size → wg.heap.size + 2 ≤ k → True ∨ True → (put5 W4 (w.heap.size + 1) 0 (.int .i64 T.kd) (.int .i64 T.nm) (.string T.st) (.slice (some ⟨g', 0, none⟩) n' cap') (.slice y2 z2 d2)).heap[k]? = w1.heap[k]? := fun k h1 h2 _ => (put5_heap _ _ _ _ _ _ _ _ _ (by omega)).trans ((hF4.out k (by omega)).trans ((hK3 k (by omega)).trans (hXB.out k h1)))
      refine bodyPost_ret (v := .tuple #[vv (delT T ⟨⟨#[]⟩, (i' : Int), true⟩ i') (.slice (some ⟨g', 0, none⟩) n' cap') (.slice y2 z2 d2), .bool true]) (by simp [results, Tryz.results30, go_sem, vv, a0, a1, a2, r0, r1, r2, r3, r4]) rfl ⟨delT T ⟨⟨#[]⟩, (i' : Int), true⟩ i', _, _, by rw [HDR.out]; rfl, by rw [HDR.out]; rfl, ?_, box5_bel hB4 _ (by omega) _ _ _ _ _⟩
      change HS (put5 W4 (w.heap.size + 1) 0 (.int .i64 T.kd) (.int .i64 T.nm) (.string T.st) (.slice (some ⟨g', 0, none⟩) n' cap') (.slice y2 z2 d2)) (fun k => w.heap.size ≤ k ∧ k < (put5 W4 (w.heap.size + 1) 0 (.int .i64 T.kd) (.int .i64 T.nm) (.string T.st) (.slice (some ⟨g', 0, none⟩) n' cap') (.slice y2 z2 d2)).heap.size) _ _ _
      rw [put5_size, hs4]
      refine hs_of (by rw [a0, a1, a2]; exact HT.out.wfs) (by
        rw [a3]
        exact (by have := own_ls (w := (put5 W4 (w.heap.size + 1) 0 (.int .i64 T.kd) (.int .i64 T.nm) (.string T.st) (.slice (some ⟨g', 0, none⟩) n' cap') (.slice y2 z2 d2))) (S := fun k => w.heap.size ≤ k ∧ k < w3.heap.size) (base := W2.heap.size) (v := (.slice (some ⟨g', 0, none⟩) n' cap')) (E := E.eraseIdx i') (ty := 31) (own_far5 HO4.out (w.heap.size + 1) 0 (.int .i64 T.kd) (.int .i64 T.nm) (.string T.st) (.slice (some ⟨g', 0, none⟩) n' cap') (.slice y2 z2 d2) (fun g hg => by simp [Value.ownBlock] at hg; subst hg; omega)) (fun e he => (HC1.out.2.2.2 e (List.mem_of_mem_eraseIdx he)).onto (fun k hk => hff k (by omega) (by omega) (Or.inl trivial)) (fun k hk => ⟨by omega, by omega⟩)) (fun g hg => by simp [Value.ownBlock] at hg; subst hg; exact ⟨by omega, hg3.2⟩); rw [map_erase, HC1.out.2.1, List.take_length] at this; exact this)) (by
        rw [a4, a5, hV0, hK0, HYN.out]
        exact ms_nil _ _)

  · have hrl : 0 < r.length := List.length_pos_iff.2 hr0
    have hmore : (1 : Int) < (r.length : Int) + 1 := by omega
    go_upto_region 8 with fail
    have hXB := hid (fun k hk => Below.heap_alloc w1 (.cells #[.int .i64 T.kd, .int .i64 T.nm, .string T.st, .slice (some ⟨gr, 0, none⟩) T.ls.length d1, .slice y2 z2 d2] 31) k hk)
    generalize (w1.alloc (.cells #[.int .i64 T.kd, .int .i64 T.nm, .string T.st, .slice (some ⟨gr, 0, none⟩) T.ls.length d1, .slice y2 z2 d2] 31)) = W2 at ST2 SB2 CB2 CR2 HC2 HROW CS2 hsz3 f2 hXB ⊢
    obtain ⟨e0', e1', e2', e3', e4'⟩ := CLN.out i' t ht
    have HVT := hid (RL.out i' t ht)
    obtain ⟨y3, z3, d3, y4, z4, d4, hf1, hg1⟩ := hv_slices HVT.out
    rw [hf1] at e3' HVT
    rw [hg1] at e4' HVT
    have e0 := keepCell ST2.out.bel e0'; have e1 := keepCell ST2.out.bel e1'; have e2 := keepCell ST2.out.bel e2'; have e3 := keepCell ST2.out.bel e3'; have e4 := keepCell ST2.out.bel e4'
    have hab : aL.block < w.heap.size := by have := World.block_lt_of_cell? w _ e0'; rwa [addr_block] at this
    have b3 := ST2.out.node.2.2.2.1
    have f1 := SB2.out.c1
    have c3 := CB2.out.cells.2.2.2.1
    simp only [Nat.zero_add] at b3
    clear e0' e1' e2' e3' e4' hf1 hg1 f2
    obtain ⟨Z0, hZ0⟩ := drop_some hr0 hgt
    have hszt := szT_ls T i' t ht
    have HPT : Hid (plainT t = true) := hid (by
      have := HPL.out
      rw [plainT_eq, Bool.and_eq_true, Bool.and_eq_true] at this
      exact (plainL_get _).1 this.1.2 i' t ht)
    have HDR : Hid (dropP T (⟨⟨#[]⟩, (i' : Int), true⟩ :: r) = some (repT T ⟨⟨#[]⟩, (i' : Int), true⟩ i' Z0)) := hid (by
      rw [dropP_cons T _ hr0, hidx]
      simp only [hkid, hZ0]; rfl)
    have HPD := hid (inp_tl (m := 1) HP.out (by simp))
    simp only [List.drop_one, List.tail_cons, List.length_cons, Nat.add_sub_cancel, add_o5] at HPD
    have hle1 : (1 : Int) ≤ (r.length : Int) + 1 := by omega
    have CI := hid (fun X (hX : Below W2.heap.size W2 X) => HIH.out t _ _ _ X HPT.out (by omega) (HVT.out.onto (vonto ST2.out.bel hX)) (HPD.out.onto (vonto ST2.out.bel hX)) HF.out (by omega))
    rw [hZ0] at CI
    simp only [vv] at CI
    have HSZ := hid hsz3
    have HKEEP : Hid (∀ X : World, (∀ k, k < W2.heap.size → ¬ k = gr → X.heap[k]? = W2.heap[k]?) → X.cell? ⟨w1.heap.size, 3, none⟩ = some (.slice (some ⟨gr, 0, none⟩) T.ls.length d1) ∧ X.cell? ⟨wg.heap.size + 1, 1, none⟩ = some (.int .i64 (i' : Int)) ∧ X.cell? ⟨w.heap.size, 3, none⟩ = some (.slice (some aL) T.ls.length c1) ∧ X.cell? (aL.add (i' * 5)) = some (.int .i64 t.kd) ∧ X.cell? ⟨(aL.add (i' * 5)).block, (aL.add (i' * 5)).off + 1, none⟩ = some (.int .i64 t.nm) ∧ X.cell? ⟨(aL.add (i' * 5)).block, (aL.add (i' * 5)).off + 2, none⟩ = some (.string t.st) ∧ X.cell? ⟨(aL.add (i' * 5)).block, (aL.add (i' * 5)).off + 3, none⟩ = some (.slice y3 z3 d3) ∧ X.cell? ⟨(aL.add (i' * 5)).block, (aL.add (i' * 5)).off + 4, none⟩ = some (.slice y4 z4 d4)) := hid (by
      intro X hX
      have q1 : ∀ (b o : Nat), b < W2.heap.size → ¬ b = gr → X.cell? ⟨b, o, none⟩ = W2.cell? ⟨b, o, none⟩ := fun b o h1 h2 => World.cell?_of_block (w := W2) (hX b h1 h2)
      have q2 : ∀ (ad : Addr), ad.block = aL.block → X.cell? ad = W2.cell? ad := fun ad h => World.cell?_of_block (w := W2) (hX _ (by omega) (by omega))
      exact ⟨(q1 _ 3 (by omega) (by omega)).trans c3, (q1 _ 1 (by omega) (by omega)).trans f1, (q1 _ 3 (by omega) (by omega)).trans b3, (q2 _ (addr_block _ _)).trans e0, (q2 ⟨_, _, none⟩ (addr_block _ _)).trans e1, (q2 ⟨_, _, none⟩ (addr_block _ _)).trans e2, (q2 ⟨_, _, none⟩ (addr_block _ _)).trans e3, (q2 ⟨_, _, none⟩ (addr_block _ _)).trans e4⟩)
    clear hsz3 c3 f1 b3 e0 e1 e2 e3 e4
    refine wp_region_h (S := fun X => X.cell? ⟨w1.heap.size, 3, none⟩ = some (.slice (some ⟨gr, 0, none⟩) T.ls.length d1) ∧ X.cell? ⟨wg.heap.size + 1, 1, none⟩ = some (.int .i64 (i' : Int)) ∧ X.cell? ⟨w.heap.size, 3, none⟩ = some (.slice (some aL) T.ls.length c1) ∧ X.cell? (aL.add (i' * 5)) = some (.int .i64 t.kd) ∧ X.cell? ⟨(aL.add (i' * 5)).block, (aL.add (i' * 5)).off + 1, none⟩ = some (.int .i64 t.nm) ∧ X.cell? ⟨(aL.add (i' * 5)).block, (aL.add (i' * 5)).off + 2, none⟩ = some (.string t.st) ∧ X.cell? ⟨(aL.add (i' * 5)).block, (aL.add (i' * 5)).off + 3, none⟩ = some (.slice y3 z3 d3) ∧ X.cell? ⟨(aL.add (i' * 5)).block, (aL.add (i' * 5)).off + 4, none⟩ = some (.slice y4 z4 d4)) 18 (by kernel_rfl) (by kernel_rfl) ?_
    have hS0 := HKEEP.out W2.drew (fun _ _ _ => rfl)
    refine take_h (i := 0) (v := ?_) rfl (by kernel_rfl) (by kernel_rfl) (by kernel_rfl) (fun _ _ _ h => h) (by rfl) ?_ hS0 ?_
    rotate_left
    · (intro X hX; go_simp; try with_reducible rfl)
    simp only [Act.put, List.setIfInBounds_toArray, List.set_cons_zero, List.set_cons_succ]
    refine take_h (i := 1) (v := ?_) rfl (by kernel_rfl) (by kernel_rfl) (by kernel_rfl) (fun _ _ _ h => h) (by rfl) ?_ hS0 ?_
    rotate_left
    · (intro X hX; go_simp; try with_reducible rfl)
    simp only [Act.put, List.setIfInBounds_toArray, List.set_cons_zero, List.set_cons_succ]
    refine take_h (i := 2) (v := ?_) rfl (by kernel_rfl) (by kernel_rfl) (by kernel_rfl) (fun _ _ _ h => h) (by rfl) ?_ hS0 ?_
    rotate_left
    · (intro X hX; go_simp; try with_reducible rfl)
    simp only [Act.put, List.setIfInBounds_toArray, List.set_cons_zero, List.set_cons_succ]
    refine take_h (i := 3) (v := ?_) rfl (by kernel_rfl) (by kernel_rfl) (by kernel_rfl) (fun _ _ _ h => h) (by rfl) ?_ hS0 ?_
    rotate_left
    · (intro X hX; go_simp; try with_reducible rfl)
    simp only [Act.put, List.setIfInBounds_toArray, List.set_cons_zero, List.set_cons_succ]
    refine take_h (i := 4) (v := ?_) rfl (by kernel_rfl) (by kernel_rfl) (by kernel_rfl) (fun _ _ _ h => h) (by rfl) ?_ hS0 ?_
    rotate_left
    · (intro X hX; go_simp; try with_reducible rfl)
    simp only [Act.put, List.setIfInBounds_toArray, List.set_cons_zero, List.set_cons_succ]
    refine take_h (i := 5) (v := ?_) rfl (by kernel_rfl) (by kernel_rfl) (by kernel_rfl) (fun _ _ _ h => h) (by rfl) ?_ hS0 ?_
    rotate_left
    · (intro X hX; go_simp; try with_reducible rfl)
    simp only [Act.put, List.setIfInBounds_toArray, List.set_cons_zero, List.set_cons_succ]
    refine take_h (i := 6) (v := ?_) rfl (by kernel_rfl) (by kernel_rfl) (by kernel_rfl) (fun _ _ _ h => h) (by rfl) ?_ hS0 ?_
    rotate_left
    · (intro X hX; go_simp; try with_reducible rfl)
    simp only [Act.put, List.setIfInBounds_toArray, List.set_cons_zero, List.set_cons_succ]
    refine take_h (i := 7) (v := ?_) rfl (by kernel_rfl) (by kernel_rfl) (by kernel_rfl) (fun _ _ _ h => h) (by rfl) ?_ hS0 ?_
    rotate_left
    · (intro X hX; go_simp; try with_reducible rfl)
    simp only [Act.put, List.setIfInBounds_toArray, List.set_cons_zero, List.set_cons_succ]
    refine take_h (i := 8) (v := ?_) rfl (by kernel_rfl) (by kernel_rfl) (by kernel_rfl) (fun _ _ _ h => h) (by rfl) ?_ hS0 ?_
    rotate_left
    · (intro X hX; go_simp; try with_reducible rfl)
    simp only [Act.put, List.setIfInBounds_toArray, List.set_cons_zero, List.set_cons_succ]
    refine take_h (i := 9) (v := ?_) rfl (by kernel_rfl) (by kernel_rfl) (by kernel_rfl) (fun _ _ _ h => h) (by rfl) ?_ hS0 ?_
    rotate_left
    · (intro X hX; go_simp; try with_reducible rfl)
    simp only [Act.put, List.setIfInBounds_toArray, List.set_cons_zero, List.set_cons_succ]
    refine take_h (i := 10) (v := ?_) rfl (by kernel_rfl) (by kernel_rfl) (by kernel_rfl) (fun _ _ _ h => h) (by rfl) ?_ hS0 ?_
    rotate_left
    · (intro X hX; go_simp; try with_reducible rfl)
    simp only [Act.put, List.setIfInBounds_toArray, List.set_cons_zero, List.set_cons_succ]
    refine take_h (i := 11) (v := ?_) rfl (by kernel_rfl) (by kernel_rfl) (by kernel_rfl) (fun _ _ _ h => h) (by rfl) ?_ hS0 ?_
    rotate_left
    · (intro X hX; go_simp; try with_reducible rfl)
    simp only [Act.put, List.setIfInBounds_toArray, List.set_cons_zero, List.set_cons_succ]
    generalize (if cp = 1 then some a else some ⟨a.block, a.off + 3, none⟩) = oa at HPD CI ⊢
    refine step_h (i := 12) rfl (by kernel_rfl) ?_
    intro KK hKK
    go_simp
    go_wp2_with (go_at_call 30; go_must (refine (CI.out _ (Below.refl _ _).drew).mono ?_; rintro e wz ⟨Z, X, Y, rfl, hZ, hfg, hbz⟩; have HZ := hid hZ; clear hZ; simp only [vv]))
    obtain ⟨ro1, rn1, rc1, ro2, rn2, rc2, rfl, rfl⟩ := hv_slices hfg.hv
    replace hbz : Below W2.heap.size W2 wz := vonto (Below.refl W2.heap.size W2).drew hbz
    replace hfg : HS wz (fun k => W2.heap.size ≤ k ∧ k < wz.heap.size) Z (.slice ro1 rn1 rc1) (.slice ro2 rn2 rc2) := hfg
    have hS1 := HKEEP.out wz (fun k hk _ => hbz.block k hk)
    refine hKK.out _ _ hS1 (fun _ => ?_)
    clear hKK KK hS0
    refine take_h (i := 13) (v := ?_) rfl (by kernel_rfl) (by kernel_rfl) (by kernel_rfl) (fun _ _ _ h => h) (by rfl) ?_ hS1 ?_
    rotate_left
    · (intro X hX; go_simp; try with_reducible rfl)
    simp only [Act.put, List.setIfInBounds_toArray, List.set_cons_zero, List.set_cons_succ]
    refine take_h (i := 14) (v := ?_) rfl (by kernel_rfl) (by kernel_rfl) (by kernel_rfl) (fun _ _ _ h => h) (by rfl) ?_ hS1 ?_
    rotate_left
    · (intro X hX; go_simp; try with_reducible rfl)
    simp only [Act.put, List.setIfInBounds_toArray, List.set_cons_zero, List.set_cons_succ]
    refine take_h (i := 15) (v := ?_) rfl (by kernel_rfl) (by kernel_rfl) (by kernel_rfl) (fun _ _ _ h => h) (by rfl) ?_ hS1 ?_
    rotate_left
    · (intro X hX; go_simp; try with_reducible rfl)
    simp only [Act.put, List.setIfInBounds_toArray, List.set_cons_zero, List.set_cons_succ]
    refine take_h (i := 16) (v := ?_) rfl (by kernel_rfl) (by kernel_rfl) (by kernel_rfl) (fun _ _ _ h => h) (by rfl) ?_ hS1 ?_
    rotate_left
    · (intro X hX; have ha := add_at gr (i' * 5); go_simp; try with_reducible rfl)
    simp only [Act.put, List.setIfInBounds_toArray, List.set_cons_zero, List.set_cons_succ]
    have hrz := HROW.out.onto (hbz.block gr (by have := HSZ.out; omega))
    obtain ⟨n0, v0⟩ := hrz.cell (o := i' * 5) (by omega)
    obtain ⟨n1, v1'⟩ := hrz.cell (o := i' * 5 + 1) (by omega)
    obtain ⟨n2, v2'⟩ := hrz.cell (o := i' * 5 + 2) (by omega)
    obtain ⟨n3, v3⟩ := hrz.cell (o := i' * 5 + 3) (by omega)
    obtain ⟨n4, v4⟩ := hrz.cell (o := i' * 5 + 4) (by omega)
    have vf := hrz.frozen
    have hS2 := HKEEP.out (put5 wz gr (i' * 5) (.int .i64 Z.kd) (.int .i64 Z.nm) (.string Z.st) (.slice ro1 rn1 rc1) (.slice ro2 rn2 rc2)) (fun k hk hn => (put5_heap _ _ _ _ _ _ _ _ _ hn).trans (hbz.block k hk))
    simp only [put5] at hS2
    have HB := hid hbz
    have HH := hid hfg
    clear hbz hfg hrz
    refine step_h (i := 17) rfl (by kernel_rfl) ?_
    intro KK hKK
    go_simp
    refine hKK.out _ _ hS2 (fun _ => ?_)
    clear hKK KK hS1 hS2 v0 v1' v2' v3 v4 vf
    refine wpAnyH_done (by kernel_rfl) ?_ _
    go_upto_region 9 with fail
    change Code.wp _ _ _ _ (put5 wz gr (i' * 5) (.int .i64 Z.kd) (.int .i64 Z.nm) (.string Z.st) (.slice ro1 rn1 rc1) (.slice ro2 rn2 rc2))
    have hw2 := HSZ.out
    have hwb := HB.out.size
    have HCc := hid (HC2.out.on HB.out)
    have hbP : Below w.heap.size w (put5 wz gr (i' * 5) (.int .i64 Z.kd) (.int .i64 Z.nm) (.string Z.st) (.slice ro1 rn1 rc1) (.slice ro2 rn2 rc2)) := put5_bel (vonto ST2.out.bel HB.out) (by omega)
    have LSP := hid (copied_put (i := i') HCc.out hlt (HH.out.onto (fun _ _ => rfl) (fun k hk => ⟨by omega, hk.2, by omega⟩)))
    have CNP := hid ((CB2.out.1.onto HB.out).eqs (put5_heap wz gr (i' * 5) (.int .i64 Z.kd) (.int .i64 Z.nm) (.string Z.st) (.slice ro1 rn1 rc1) (.slice ro2 rn2 rc2) w1.heap.size (by omega)))
    have ZP := hid (z5_far (ST2.out.on HB.out).zero (put5_heap wz gr (i' * 5) (.int .i64 Z.kd) (.int .i64 Z.nm) (.string Z.st) (.slice ro1 rn1 rc1) (.slice ro2 rn2 rc2) (w.heap.size + 1) (by omega)))
    have HPS := hid (put5_size wz gr (i' * 5) (.int .i64 Z.kd) (.int .i64 Z.nm) (.string Z.st) (.slice ro1 rn1 rc1) (.slice ro2 rn2 rc2))
    clear hw2
    generalize (put5 wz gr (i' * 5) (.int .i64 Z.kd) (.int .i64 Z.nm) (.string Z.st) (.slice ro1 rn1 rc1) (.slice ro2 rn2 rc2)) = WP at hbP LSP CNP ZP HPS ⊢
    obtain ⟨m0, m1, m2, m3, m4⟩ := CNP.out
    simp only [Nat.zero_add] at m0 m1 m2 m3 m4
    obtain ⟨⟨q0, q1, q2, q3, q4⟩, qf⟩ := ZP.out
    go_wp2_with fail
    obtain ⟨r0, r1, r2, r3, r4⟩ := z5_put ZP.out T (.slice (some ⟨gr, 0, none⟩) T.ls.length d1) (.slice y2 z2 d2)
    simp only [put5, Nat.zero_add] at r0 r1 r2 r3 r4
    have hae : (repT T ⟨⟨#[]⟩, (i' : Int), true⟩ i' Z).kd = T.kd ∧ (repT T ⟨⟨#[]⟩, (i' : Int), true⟩ i' Z).nm = T.nm ∧ (repT T ⟨⟨#[]⟩, (i' : Int), true⟩ i' Z).st = T.st ∧ (repT T ⟨⟨#[]⟩, (i' : Int), true⟩ i' Z).ls = T.ls.set i' Z ∧ (repT T ⟨⟨#[]⟩, (i' : Int), true⟩ i' Z).ks = T.ks ∧ (repT T ⟨⟨#[]⟩, (i' : Int), true⟩ i' Z).vs = T.vs := by cases T; exact ⟨rfl, rfl, rfl, rfl, rfl, rfl⟩
    obtain ⟨a0, a1, a2, a3, a4, a5⟩ := hae
    have hV0 : T.vs = [] := List.eq_nil_of_length_eq_zero HVS.out
    have hK0 : T.ks = [] := List.eq_nil_of_length_eq_zero ((hv_ks HT.out).trans HVS.out)
    have hps := HPS.out
    have hZe : Z = Z0 := HZ.out
    refine bodyPost_ret (v := .tuple #[vv (repT T ⟨⟨#[]⟩, (i' : Int), true⟩ i' Z) (.slice (some ⟨gr, 0, none⟩) T.ls.length d1) (.slice y2 z2 d2), .bool true]) (by simp [results, Tryz.results30, go_sem, vv, a0, a1, a2, r0, r1, r2, r3, r4]) rfl ⟨repT T ⟨⟨#[]⟩, (i' : Int), true⟩ i' Z, _, _, by rw [HDR.out]; rfl, by rw [HDR.out, hZe]; rfl, ?_, box5_bel hbP _ (by omega) _ _ _ _ _⟩
    change HS (put5 WP (w.heap.size + 1) 0 (.int .i64 T.kd) (.int .i64 T.nm) (.string T.st) (.slice (some ⟨gr, 0, none⟩) T.ls.length d1) (.slice y2 z2 d2)) (fun k => w.heap.size ≤ k ∧ k < (put5 WP (w.heap.size + 1) 0 (.int .i64 T.kd) (.int .i64 T.nm) (.string T.st) (.slice (some ⟨gr, 0, none⟩) T.ls.length d1) (.slice y2 z2 d2)).heap.size) _ _ _
    rw [put5_size]
    refine hs_of (by rw [a0, a1, a2]; exact HT.out.wfs) (by
      rw [a3]
      refine LSP.out.onto (fun k hk => ?_) (fun k hk => ⟨by omega, by omega⟩)
      rw [put5_heap _ _ _ _ _ _ _ _ _ (by omega)]) (by
      rw [a4, a5, hV0, hK0, HYN.out]
      exact ms_nil _ _)
end Go.Proofs.YtjcejjejlekelaaGreatDoor
namespace Go.Proofs.YtjcejjejlekelaaGreatDoor
open Go.RowKit

set_option maxRecDepth 100000 in
set_option maxHeartbeats 4000000 in
theorem drop5_key (r : List PStep) (hih : Drop5Ok r) (key : ByteArray) (T G : VT) (x y v : Value) (w : World) (hpl : plainT T = true) (hsz : szT T ≤ 100000) (hT : HV w T x y)
    (hp : InP w (⟨key, 0, false⟩ :: r) v) (hf : ∀ q ∈ ⟨key, 0, false⟩ :: r, Frm q) (hl : r.length + 1 ≤ 1000000) (hgs : getP T (⟨key, 0, false⟩ :: r) = some G) :
    Calls Tryz.prog 30 #[vv T x y, v] w fun e w' => Set5 (dropP T (⟨key, 0, false⟩ :: r)) w e w' := by
  have HIH := hid hih
  have HT := hid hT
  have HF := hid (fun q (hq : q ∈ r) => hf q (List.mem_cons_of_mem _ hq))
  have HPL := hid hpl
  have HP := hid hp
  obtain ⟨a, ⟨op, cp, rfl, hp1, hp2, hp3⟩, hpc⟩ := hp
  obtain rfl := hp3 (by simp)
  unfold maxLen at hp2
  obtain ⟨s0, s1, s2, skm⟩ := hpc 0 _ rfl
  rw [add_z5] at s0 s1 s2
  obtain ⟨aL, bM, f, g, pp, qq, o1, o2, c1, c2, rfl, rfl, -, -, hoL, hoM, hK, -, hLc, hMc, cLn, -, -, rL, -, -, -⟩ := HT.out.parts
  have CLN := hid cLn
  have RL := hid rL
  have HK := hid hK
  have SKM := hid skm
  have DS0 := hid (d5_new w T (.slice o1 T.ls.length c1) (.slice o2 T.vs.length c2))
  have CG := hid (get5_any T (.slice o1 T.ls.length c1) (.slice o2 T.vs.length c2) (⟨key, 0, false⟩ :: r) _ _ (HT.out.onto DS0.out.bel) (HP.out.onto DS0.out.bel) hf hl)
  rw [hgs] at CG
  have HGS := hid hgs
  clear hih hT hf hpc hp3 hpl cLn rL hoM hMc hK hgs skm
  simp only [vv, Option.isSome_some, Option.getD_some] at CG ⊢
  simp only [List.length_cons] at hp1 CG ⊢
  go_enter Tryz.func30, Tryz.ntmps30
  go_wp2_with fail
  generalize ((w.alloc (.cells #[.int .i64 T.kd, .int .i64 T.nm, .string T.st, .slice o1 T.ls.length c1, .slice o2 T.vs.length c2] 31)).alloc (.cells #[.int .i64 0, .int .i64 0, .string ⟨#[]⟩, .slice none 0 0, .slice none 0 0] 31)) = W0 at DS0 CG ⊢
  go_at_call 27
  refine CG.out.mono ?_
  rintro e wg ⟨R, X, Y, rfl, hR, hvR, hbg⟩
  obtain ⟨u1, v1, t1, u2, v2, t2, rfl, rfl⟩ := hv_slices hvR
  have hal := valloc_bel (Below.refl wg.heap.size wg) (.cells #[.int .i64 R.kd, .int .i64 R.nm, .string R.st, .slice u1 v1 t1, .slice u2 v2 t2] 31)
  have DS1 := hid ((DS0.out.on hbg).on hal)
  have t0 := keepCell DS1.out.bel s0
  have t1' := keepCell DS1.out.bel s1
  have t2' := keepCell DS1.out.bel s2
  have hgl := (DS0.out.on hbg).big
  clear CG DS0 hR hvR hbg hal s0 s1 s2
  obtain ⟨b0, b1, b2, b3, b4⟩ := (DS1.out.on (valloc_bel (Below.refl _ _) (.cells #[.string key, .int .i64 0, .bool false] 79))).node
  simp only [Nat.zero_add] at b0 b1 b2 b3 b4
  go_wp2_with fail
  clear b0 b1 b2 b3 b4
  have hsz1 := World.size_alloc wg (.cells #[.int .i64 R.kd, .int .i64 R.nm, .string R.st, .slice u1 v1 t1, .slice u2 v2 t2] 31)
  clear t0 t1' t2'
  generalize (wg.alloc (.cells #[.int .i64 R.kd, .int .i64 R.nm, .string R.st, .slice u1 v1 t1, .slice u2 v2 t2] 31)) = W1 at DS1 hsz1 ⊢
  have hal := valloc_bel (Below.refl W1.heap.size W1) (.cells #[.string key, .int .i64 0, .bool false] 79)
  have hsb : Sb (W1.alloc (.cells #[.string key, .int .i64 0, .bool false] 79)) (wg.heap.size + 1) ⟨key, 0, false⟩ := by
    rw [← hsz1]; exact ⟨by simp, by simp, by simp⟩
  have DS2 := hid (DS1.out.on hal)
  have hsz2 : (W1.alloc (.cells #[.string key, .int .i64 0, .bool false] 79)).heap.size = wg.heap.size + 2 := by rw [World.size_alloc, hsz1]
  generalize (W1.alloc (.cells #[.string key, .int .i64 0, .bool false] 79)) = W2 at hsb DS2 hsz2 ⊢
  clear hal hsz1 DS1
  have CC := hid (rcopy2_any (szT T) T (Nat.le_refl _) (by omega) (.slice o1 T.ls.length c1) (.slice o2 T.vs.length c2) W2 (HT.out.onto DS2.out.bel))
  simp only [vv] at CC
  go_at_call 26
  refine CC.out.mono ?_
  rintro e w1 ⟨X, Y, rfl, hx, hb1, hco⟩
  obtain ⟨y1, z1, d1, y2, z2, d2, rfl, rfl⟩ := hv_slices hx.hv
  rw [hsz2] at hx hco
  have hs1 := hb1.size
  have hal := valloc_bel (Below.refl w1.heap.size w1) (.cells #[.int .i64 T.kd, .int .i64 T.nm, .string T.st, .slice y1 z1 d1, .slice y2 z2 d2] 31)
  have ST2 := hid ((DS2.out.on hb1).on hal)
  have SB2 := hid ((hsb.onto hb1).onto hal)
  have CB2 := hid (bx_new hx.hv 31)
  have CR2 := hid (Row.new w1 #[.int .i64 T.kd, .int .i64 T.nm, .string T.st, .slice y1 z1 d1, .slice y2 z2 d2] 31)
  have CO2 := hid (fun (h : T.vs.length = 0) => by obtain ⟨E, h1, h2⟩ := hco h; have h1 := h1.wide (lo' := wg.heap.size + 2) (by omega); exact (⟨E, h1.on hal, h2, h1⟩ : ∃ E, Copied _ (wg.heap.size + 2) (.slice y1 z1 d1) T.ls T.ls.length E ∧ Value.slice y2 z2 d2 = .slice none 0 0 ∧ Copied w1 (wg.heap.size + 2) (.slice y1 z1 d1) T.ls T.ls.length E))
  have CS2 := hid (HS.onto (S' := fun k => wg.heap.size + 2 ≤ k ∧ k < w1.heap.size) hx (fun k hk => hal.block k hk.2) (fun k hk => hk))
  have hsz3 := World.size_alloc w1 (.cells #[.int .i64 T.kd, .int .i64 T.nm, .string T.st, .slice y1 z1 d1, .slice y2 z2 d2] 31)
  have hlo1 : wg.heap.size + 2 ≤ w1.heap.size := by omega
  clear hco CC hx DS2 hsb hb1 hal hs1 hsz2
  have f2 := SB2.out.c2
  obtain ⟨i, t, hidx, hkid, hgt⟩ := get_head HGS.out
  have h6 : T.kd = 6 := by
    unfold idxT at hidx
    rw [if_neg (by simp)] at hidx
    by_cases h : T.kd = 6
    · exact h
    · rw [if_neg h] at hidx; cases hidx
  have ht : T.vs[i]? = some t := by unfold kidT at hkid; rw [if_neg (by simp)] at hkid; exact hkid
  have H6 := hid h6
  clear h6 CO2
  by_cases hr0 : r = []
  · subst hr0
    simp only [List.length_nil] at hl hp1 ⊢
    have HDR : Hid (dropP T [⟨key, 0, false⟩] = some (delT T ⟨key, 0, false⟩ i)) := hid (by rw [dropP_one, hidx])
    obtain ⟨A, bA, oA, capA, hy, hcap, hmx, hoA, hAK, hAV, hA⟩ := ents_s CS2.out.ms
    injection hy with hy1 hy2 hy3
    subst hy1 hy2 hy3
    unfold maxLen at hmx
    have HAK := hid hAK
    have HAV := hid hAV
    have HA := hid hA
    have hAl : A.length ≤ 100000 := by rw [← List.length_map (f := (·.2.1)), hAV]; have := (len_sz T).2; omega
    have hfi : firstI (keyIs key) T.ks = some i := by
      unfold idxT at hidx
      rw [if_neg (by simp), if_pos H6.out] at hidx
      exact hidx
    have HFI := hid hfi
    obtain ⟨i1, hi', hz0', hz1', hz2'⟩ := info_parts Tryz.info34
    clear hAK hAV hA hfi
    go_wp2_with fail
    generalize (w1.alloc (.cells #[.int .i64 T.kd, .int .i64 T.nm, .string T.st, .slice y1 z1 d1, .slice y2 A.length d2] 31)) = W2 at ST2 SB2 CB2 CR2 CS2 hsz3 HA f2 ⊢
    have HSZ := hid hsz3
    clear hsz3 f2
    go_loopw [14, 15] (fun m i wr => ∃ (j : Nat) (E : List (ByteArray × VT × Value × Value)) (o : Option Addr) (n c : Nat), i = .int .i64 j ∧ m = .slice o n c ∧ j ≤ A.length ∧ Hid (E = (A.take j).filter (fun a => !keyIs key a.1)) ∧ E.length ≤ j ∧ Hid (wr.ownsRow W2.heap.size 69 6 (.slice o n c) E.length (E.flatMap pc)) ∧ Hid (Below W2.heap.size W2 wr)) (fun _ i _ => A.length - (intOf i).toNat)
    case atStart => exact ⟨0, [], none, 0, 0, rfl, rfl, Nat.zero_le _, hid rfl, Nat.le_refl _, hid (World.ownsRow_nil _ _ _ _), hid (Below.refl _ _)⟩
    case round =>
      obtain ⟨j, E, o, n, c, rfl, rfl, hj, HE, hEl, HO, HB⟩ := hrel
      have c4 := keepCell HB.out CB2.out.cells.2.2.2.2
      have f0 := keepCell HB.out SB2.out.c0
      by_cases hlt : j < A.length
      · obtain ⟨a, ha⟩ : ∃ a, A[j]? = some a := ⟨A[j], List.getElem?_eq_getElem hlt⟩
        obtain rfl := hoA (by omega)
        have HTS : Hid (A.take (j + 1) = A.take j ++ [a]) := hid (by rw [List.take_add_one, ha]; rfl)
        obtain ⟨⟨ck, cks⟩, cn, cv⟩ := HA.out j a ha
        obtain ⟨p1, p2, p3, p4, p5, p6, hp, hq⟩ := hv_slices cv.hv
        obtain ⟨ak, at', ap, aq⟩ := a
        simp only at hp hq ck cks cn cv
        subst hp hq
        have kk := keepCell HB.out ck
        have HCN := hid (cn.onto HB.out)
        clear cv cn ck ha
        by_cases he : ak.data.toList = key.data.toList
        · have te := txt_is ak key he
          have HKI := hid (show keyIs key ak = true from decide_eq_true he)
          clear he
          go_upto_region 20 with fail
          refine wp_region_h (S := fun X => Below wr.heap.size wr X) 9 (by kernel_rfl) (by kernel_rfl) ?_
          have hS0 : Below wr.heap.size wr wr.drew := (Below.refl _ _).drew
          refine take_h (i := 0) (v := ?_) rfl (by kernel_rfl) (by kernel_rfl) (by kernel_rfl) (fun _ _ _ h => h) (by rfl) ?_ hS0 ?_
          rotate_left
          · (intro X hX; have y30 := keepCell hX c4; have y31 := keepCell hX kk; have y32 := keepCell hX f0; go_simp; try with_reducible rfl)
          simp only [Act.put, List.setIfInBounds_toArray, List.set_cons_zero, List.set_cons_succ]
          refine take_h (i := 1) (v := ?_) rfl (by kernel_rfl) (by kernel_rfl) (by kernel_rfl) (fun _ _ _ h => h) (by rfl) ?_ hS0 ?_
          rotate_left
          · (intro X hX; have y30 := keepCell hX c4; have y31 := keepCell hX kk; have y32 := keepCell hX f0; go_simp; try with_reducible rfl)
          simp only [Act.put, List.setIfInBounds_toArray, List.set_cons_zero, List.set_cons_succ]
          refine take_h (i := 2) (v := ?_) rfl (by kernel_rfl) (by kernel_rfl) (by kernel_rfl) (fun _ _ _ h => h) (by rfl) ?_ hS0 ?_
          rotate_left
          · (intro X hX; have y30 := keepCell hX c4; have y31 := keepCell hX kk; have y32 := keepCell hX f0; go_simp; try with_reducible rfl)
          simp only [Act.put, List.setIfInBounds_toArray, List.set_cons_zero, List.set_cons_succ]
          refine take_h (i := 3) (v := ?_) rfl (by kernel_rfl) (by kernel_rfl) (by kernel_rfl) (fun _ _ _ h => h) (by rfl) ?_ hS0 ?_
          rotate_left
          · (intro X hX; have y30 := keepCell hX c4; have y31 := keepCell hX kk; have y32 := keepCell hX f0; go_simp; try with_reducible rfl)
          simp only [Act.put, List.setIfInBounds_toArray, List.set_cons_zero, List.set_cons_succ]
          refine take_h (i := 4) (v := ?_) rfl (by kernel_rfl) (by kernel_rfl) (by kernel_rfl) (fun _ _ _ h => h) (by rfl) ?_ hS0 ?_
          rotate_left
          · (intro X hX; have y30 := keepCell hX c4; have y31 := keepCell hX kk; have y32 := keepCell hX f0; go_simp; try with_reducible rfl)
          simp only [Act.put, List.setIfInBounds_toArray, List.set_cons_zero, List.set_cons_succ]
          refine take_h (i := 5) (v := ?_) rfl (by kernel_rfl) (by kernel_rfl) (by kernel_rfl) (fun _ _ _ h => h) (by rfl) ?_ hS0 ?_
          rotate_left
          · (intro X hX; have y30 := keepCell hX c4; have y31 := keepCell hX kk; have y32 := keepCell hX f0; go_simp; try with_reducible rfl)
          simp only [Act.put, List.setIfInBounds_toArray, List.set_cons_zero, List.set_cons_succ]
          refine take_h (i := 6) (v := ?_) rfl (by kernel_rfl) (by kernel_rfl) (by kernel_rfl) (fun _ _ _ h => h) (by rfl) ?_ hS0 ?_
          rotate_left
          · (intro X hX; have y30 := keepCell hX c4; have y31 := keepCell hX kk; have y32 := keepCell hX f0; go_simp; try with_reducible rfl)
          simp only [Act.put, List.setIfInBounds_toArray, List.set_cons_zero, List.set_cons_succ]
          refine take_h (i := 7) (v := ?_) rfl (by kernel_rfl) (by kernel_rfl) (by kernel_rfl) (fun _ _ _ h => h) (by rfl) ?_ hS0 ?_
          rotate_left
          · (intro X hX; have y30 := keepCell hX c4; have y31 := keepCell hX kk; have y32 := keepCell hX f0; go_simp; try with_reducible rfl)
          simp only [Act.put, List.setIfInBounds_toArray, List.set_cons_zero, List.set_cons_succ]
          refine take_h (i := 8) (v := ?_) rfl (by kernel_rfl) (by kernel_rfl) (by kernel_rfl) (fun _ _ _ h => h) (by rfl) ?_ hS0 ?_
          rotate_left
          · (intro X hX; have y30 := keepCell hX c4; have y31 := keepCell hX kk; have y32 := keepCell hX f0; go_simp; try with_reducible rfl)
          simp only [Act.put, List.setIfInBounds_toArray, List.set_cons_zero, List.set_cons_succ]
          refine wpAnyH_done (by kernel_rfl) ?_ _
          go_wp2_with fail
          go_roundw
          case rel => exact ⟨j + 1, E, o, n, c, val_int (by omega), rfl, hlt, hid (by rw [HTS.out, List.filter_append, ← HE.out]; simp [HKI.out]), by omega, hid (World.ownsRow.drew HO.out), hid (vonto HB.out hS0)⟩
          case measure => simp [intOf]; omega
        · have te := txt_no ak key he
          have HKI := hid (show keyIs key ak = false from decide_eq_false he)
          clear he
          go_upto_region 20 with fail
          refine wp_region_h (S := fun X => Below wr.heap.size wr X) 9 (by kernel_rfl) (by kernel_rfl) ?_
          have hS0 : Below wr.heap.size wr wr.drew := (Below.refl _ _).drew
          refine take_h (i := 0) (v := ?_) rfl (by kernel_rfl) (by kernel_rfl) (by kernel_rfl) (fun _ _ _ h => h) (by rfl) ?_ hS0 ?_
          rotate_left
          · (intro X hX; have y30 := keepCell hX c4; have y31 := keepCell hX kk; have y32 := keepCell hX f0; go_simp; try with_reducible rfl)
          simp only [Act.put, List.setIfInBounds_toArray, List.set_cons_zero, List.set_cons_succ]
          refine take_h (i := 1) (v := ?_) rfl (by kernel_rfl) (by kernel_rfl) (by kernel_rfl) (fun _ _ _ h => h) (by rfl) ?_ hS0 ?_
          rotate_left
          · (intro X hX; have y30 := keepCell hX c4; have y31 := keepCell hX kk; have y32 := keepCell hX f0; go_simp; try with_reducible rfl)
          simp only [Act.put, List.setIfInBounds_toArray, List.set_cons_zero, List.set_cons_succ]
          refine take_h (i := 2) (v := ?_) rfl (by kernel_rfl) (by kernel_rfl) (by kernel_rfl) (fun _ _ _ h => h) (by rfl) ?_ hS0 ?_
          rotate_left
          · (intro X hX; have y30 := keepCell hX c4; have y31 := keepCell hX kk; have y32 := keepCell hX f0; go_simp; try with_reducible rfl)
          simp only [Act.put, List.setIfInBounds_toArray, List.set_cons_zero, List.set_cons_succ]
          refine take_h (i := 3) (v := ?_) rfl (by kernel_rfl) (by kernel_rfl) (by kernel_rfl) (fun _ _ _ h => h) (by rfl) ?_ hS0 ?_
          rotate_left
          · (intro X hX; have y30 := keepCell hX c4; have y31 := keepCell hX kk; have y32 := keepCell hX f0; go_simp; try with_reducible rfl)
          simp only [Act.put, List.setIfInBounds_toArray, List.set_cons_zero, List.set_cons_succ]
          refine take_h (i := 4) (v := ?_) rfl (by kernel_rfl) (by kernel_rfl) (by kernel_rfl) (fun _ _ _ h => h) (by rfl) ?_ hS0 ?_
          rotate_left
          · (intro X hX; have y30 := keepCell hX c4; have y31 := keepCell hX kk; have y32 := keepCell hX f0; go_simp; try with_reducible rfl)
          simp only [Act.put, List.setIfInBounds_toArray, List.set_cons_zero, List.set_cons_succ]
          refine take_h (i := 5) (v := ?_) rfl (by kernel_rfl) (by kernel_rfl) (by kernel_rfl) (fun _ _ _ h => h) (by rfl) ?_ hS0 ?_
          rotate_left
          · (intro X hX; have y30 := keepCell hX c4; have y31 := keepCell hX kk; have y32 := keepCell hX f0; go_simp; try with_reducible rfl)
          simp only [Act.put, List.setIfInBounds_toArray, List.set_cons_zero, List.set_cons_succ]
          refine take_h (i := 6) (v := ?_) rfl (by kernel_rfl) (by kernel_rfl) (by kernel_rfl) (fun _ _ _ h => h) (by rfl) ?_ hS0 ?_
          rotate_left
          · (intro X hX; have y30 := keepCell hX c4; have y31 := keepCell hX kk; have y32 := keepCell hX f0; go_simp; try with_reducible rfl)
          simp only [Act.put, List.setIfInBounds_toArray, List.set_cons_zero, List.set_cons_succ]
          refine take_h (i := 7) (v := ?_) rfl (by kernel_rfl) (by kernel_rfl) (by kernel_rfl) (fun _ _ _ h => h) (by rfl) ?_ hS0 ?_
          rotate_left
          · (intro X hX; have y30 := keepCell hX c4; have y31 := keepCell hX kk; have y32 := keepCell hX f0; go_simp; try with_reducible rfl)
          simp only [Act.put, List.setIfInBounds_toArray, List.set_cons_zero, List.set_cons_succ]
          refine take_h (i := 8) (v := ?_) rfl (by kernel_rfl) (by kernel_rfl) (by kernel_rfl) (fun _ _ _ h => h) (by rfl) ?_ hS0 ?_
          rotate_left
          · (intro X hX; have y30 := keepCell hX c4; have y31 := keepCell hX kk; have y32 := keepCell hX f0; go_simp; try with_reducible rfl)
          simp only [Act.put, List.setIfInBounds_toArray, List.set_cons_zero, List.set_cons_succ]
          refine wpAnyH_done (by kernel_rfl) ?_ _
          have HOd := hid (World.ownsRow.drew HO.out)
          have HBd := hid (vonto HB.out hS0)
          obtain ⟨d0, d1', d2', d3, d4⟩ := HCN.out.onto hS0
          simp only [nx] at d0 d1' d2' d3 d4
          have c4d := keepCell hS0 c4
          have kkd := keepCell hS0 kk
          have hwb := HBd.out.size
          clear c4 f0 kk hS0 te
          generalize wr.drew = wd at HOd HBd d0 d1' d2' d3 d4 c4d kkd hwb ⊢
          go_wp2_with (at_builtin; go_must (refine wpList_append_lies _ rfl _ _ _ rfl W2.heap.size 69 i1 (.agg #[.string ⟨#[]⟩, .int .i64 0, .int .i64 0, .string ⟨#[]⟩, .slice none 0 0, .slice none 0 0]) 6 96 Tryz.underlying29 hi' hz0' hz1' hz2' rfl (by decide) _ _ _ rfl (HOd.out.alloc _) ⟨wd.heap.size, 0, none⟩ 1 1 (pc (ak, at', .slice p1 p2 p3, .slice p4 p5 p6)) rfl rfl (new_cells wd _ 69) (pc_one' _ _ _ _ _ _ _ _) (by decide) (by unfold maxLen; omega) (by omega) (by simp; omega) (wd.heap.size + 1) (by simp) ?_; intro g9 cap9 w9 hown9 hgr9 hat9 hlt9))
          go_roundw
          case rel =>
            refine ⟨j + 1, E ++ [(ak, at', .slice p1 p2 p3, .slice p4 p5 p6)], some ⟨g9, 0, none⟩, E.length + 1, cap9, val_int (by omega), rfl, hlt, hid (by rw [HTS.out, List.filter_append, ← HE.out]; simp [HKI.out]), by simp; omega, hid (by rw [List.flatMap_append, List.length_append]; simpa using hown9), hid ?_⟩
            exact (HBd.out.alloc hwb _).grown hgr9 (by simp; omega) (fun q hq => (World.ownsRow.lt HOd.out q hq).1)
          case measure => simp [intOf]; omega
      · have hjA : j = A.length := by omega
        subst hjA
        rw [List.take_length] at HE
        have crr := CR2.out.onto (HB.out.block w1.heap.size (by have := HSZ.out; omega))
        have zf := crr.frozen
        go_upto_region 23 with fail
        have hw2 := HSZ.out
        have hwb := HB.out.size
        have hbig := ST2.out.big
        have hOl : ∀ g, (Value.slice o n c).ownBlock = some g → W2.heap.size ≤ g ∧ g < wr.heap.size := fun g hg => World.ownsRow.lt HO.out g hg
        obtain ⟨g0, g1, g2, g3, g4⟩ := CB2.out.cells
        have HNZ := hid (z5_far (ST2.out.on HB.out).zero (Below.heap_setCell wr ⟨w1.heap.size, 4, none⟩ (.slice o n c) (w.heap.size + 1) (by show _ ≠ w1.heap.size; omega)))
        have n0 := (set_other wr w1.heap.size w1.heap.size 4 0 (.slice o n c) (Or.inr (by omega))).trans (keepCell HB.out g0)
        have n1 := (set_other wr w1.heap.size w1.heap.size 4 1 (.slice o n c) (Or.inr (by omega))).trans (keepCell HB.out g1)
        have n2 := (set_other wr w1.heap.size w1.heap.size 4 2 (.slice o n c) (Or.inr (by omega))).trans (keepCell HB.out g2)
        have n3 := (set_other wr w1.heap.size w1.heap.size 4 3 (.slice o n c) (Or.inr (by omega))).trans (keepCell HB.out g3)
        have n4 := set_same (show Row wr w1.heap.size 31 5 from crr) (o := 4) (by decide) (.slice o n c)
        have hB4 : Below w.heap.size w (wr.setCell ⟨w1.heap.size, 4, none⟩ (.slice o n c)) := vset_bel (vonto ST2.out.bel HB.out) (by show w.heap.size ≤ w1.heap.size; omega)
        have hF4 := hid (fun k (hk : ¬ k = w1.heap.size) => Below.heap_setCell wr ⟨w1.heap.size, 4, none⟩ (.slice o n c) k hk)
        have hs4 : (wr.setCell ⟨w1.heap.size, 4, none⟩ (.slice o n c)).heap.size = wr.heap.size := by simp
        have HO4 := hid (own_far HO.out w1.heap.size 4 (.slice o n c) (fun g hg => by have := hOl g hg; omega))
        clear c4 f0 zf crr g0 g1 g2 g3 g4
        generalize (wr.setCell ⟨w1.heap.size, 4, none⟩ (.slice o n c)) = W4 at HNZ n0 n1 n2 n3 n4 hB4 hF4 hs4 HO4 ⊢
        obtain ⟨⟨q0, q1, q2, q3, q4⟩, qf⟩ := HNZ.out
        go_wp2_with fail
        obtain ⟨r0, r1, r2, r3, r4⟩ := z5_put HNZ.out T (.slice y1 z1 d1) (.slice o n c)
        simp only [put5, Nat.zero_add] at r0 r1 r2 r3 r4
        have hae : (delT T ⟨key, 0, false⟩ i).kd = T.kd ∧ (delT T ⟨key, 0, false⟩ i).nm = T.nm ∧ (delT T ⟨key, 0, false⟩ i).st = T.st ∧ (delT T ⟨key, 0, false⟩ i).ls = T.ls ∧ (delT T ⟨key, 0, false⟩ i).ks = T.ks.eraseIdx i ∧ (delT T ⟨key, 0, false⟩ i).vs = T.vs.eraseIdx i := by cases T; exact ⟨rfl, rfl, rfl, rfl, rfl, rfl⟩
        obtain ⟨a0, a1, a2, a3, a4, a5⟩ := hae
        have hEr : E = A.eraseIdx i := by
          rw [HE.out]
          exact filt_erase key A i (by rw [HAK.out]; exact HFI.out) (by rw [HAK.out]; exact (plain_map HPL.out H6.out).2.2.2)
        have hff : ∀ k, wg.heap.size + 2 ≤ k ∧ k < w1.heap.size → (put5 W4 (w.heap.size + 1) 0 (.int .i64 T.kd) (.int .i64 T.nm) (.string T.st) (.slice y1 z1 d1) (.slice o n c)).heap[k]? = W2.heap[k]? := fun k hk => (put5_heap _ _ _ _ _ _ _ _ _ (by omega)).trans ((hF4.out k (by omega)).trans (HB.out.block k (by omega)))
        refine bodyPost_ret (v := .tuple #[vv (delT T ⟨key, 0, false⟩ i) (.slice y1 z1 d1) (.slice o n c), .bool true]) (by simp [results, Tryz.results30, go_sem, vv, a0, a1, a2, r0, r1, r2, r3, r4]) rfl ⟨delT T ⟨key, 0, false⟩ i, _, _, by rw [HDR.out]; rfl, by rw [HDR.out]; rfl, ?_, box5_bel hB4 _ (by omega) _ _ _ _ _⟩
        change HS (put5 W4 (w.heap.size + 1) 0 (.int .i64 T.kd) (.int .i64 T.nm) (.string T.st) (.slice y1 z1 d1) (.slice o n c)) (fun k => w.heap.size ≤ k ∧ k < (put5 W4 (w.heap.size + 1) 0 (.int .i64 T.kd) (.int .i64 T.nm) (.string T.st) (.slice y1 z1 d1) (.slice o n c)).heap.size) _ _ _
        rw [put5_size, hs4]
        refine hs_of (by rw [a0, a1, a2]; exact HT.out.wfs) (by
          rw [a3]
          exact CS2.out.lsp.onto hff (fun k hk => ⟨by omega, by omega⟩)) (by
          rw [a4, a5]
          have := own_ms (w := (put5 W4 (w.heap.size + 1) 0 (.int .i64 T.kd) (.int .i64 T.nm) (.string T.st) (.slice y1 z1 d1) (.slice o n c))) (S := fun k => w.heap.size ≤ k ∧ k < wr.heap.size) (base := W2.heap.size) (v := (.slice o n c)) (E := E) (ty := 69) (own_far5 HO4.out (w.heap.size + 1) 0 (.int .i64 T.kd) (.int .i64 T.nm) (.string T.st) (.slice y1 z1 d1) (.slice o n c) (fun g hg => by have := hOl g hg; omega)) (fun e he => by
            have hm : e ∈ A := List.mem_of_mem_eraseIdx (by rw [← hEr]; exact he)
            obtain ⟨q, hq⟩ := List.getElem?_of_mem hm
            obtain ⟨⟨-, h1⟩, -, h2⟩ := HA.out q e hq
            exact ⟨h1, h2.onto hff (fun k hk => ⟨by omega, by omega⟩)⟩) (fun g hg => by have := hOl g hg; exact ⟨by omega, by omega⟩)
          rw [hEr, map_erase, map_erase, HAK.out, HAV.out] at this
          exact this)
  · have hrl : 0 < r.length := List.length_pos_iff.2 hr0
    have hmore : (1 : Int) < (r.length : Int) + 1 := by omega
    have hgo : getO T key = some t := by
      have := key_get (s := ⟨key, 0, false⟩) HK.out rfl
      rw [hidx] at this
      simp only [Option.bind_some, hkid] at this
      exact this.symm
    have CG := hid (fun X (hX : Below w.heap.size w X) => get_at T _ _ key w X HT.out hX)
    rw [hgo] at CG
    simp only [vv, Option.isSome_some, Option.getD_some] at CG
    obtain ⟨b0, b1, b2, b3, b4⟩ := ST2.out.node
    simp only [Nat.zero_add] at b0 b1 b2 b3 b4
    have f0 := SB2.out.c0
    go_wp2_with fail
    go_at_call 54
    refine (CG.out _ ST2.out.bel).mono ?_
    rintro e wy ⟨R2, X, Y, rfl, hR2, hvR, hby⟩
    obtain ⟨u3, v3, t3, u4, v4, t4, rfl, rfl⟩ := hv_slices hvR
    have HR2 := hid hR2
    have HVR := hid hvR
    clear CG b0 b1 b2 b3 b4 f0 f2 hvR hR2 hgo
    go_upto_region 11 with fail
    generalize (w1.alloc (.cells #[.int .i64 T.kd, .int .i64 T.nm, .string T.st, .slice y1 z1 d1, .slice y2 z2 d2] 31)) = W2 at ST2 SB2 CB2 CR2 CS2 hsz3 hby ⊢
    have hal2 := valloc_bel (Below.refl wy.heap.size wy) (.cells #[.int .i64 R2.kd, .int .i64 R2.nm, .string R2.st, .slice u3 v3 t3, .slice u4 v4 t4] 31)
    have hb3 := vonto hby hal2
    have ST3 := hid (ST2.out.on hb3)
    have SB3 := hid (SB2.out.onto hb3)
    have CN3 := hid (CB2.out.1.onto hb3)
    have hby2 := hby.size
    have YB3 := hid (bx_new (HVR.out.onto (vonto ST2.out.bel hby)) 31).1
    have CS3 := hid (CS2.out.onto (S' := fun k => wg.heap.size + 2 ≤ k ∧ k < w1.heap.size) (fun k hk => hb3.block k (by omega)) (fun k hk => hk))
    have hlow2 : w1.heap.size < wy.heap.size := by omega
    have HS3 := hid (World.size_alloc wy (.cells #[.int .i64 R2.kd, .int .i64 R2.nm, .string R2.st, .slice u3 v3 t3, .slice u4 v4 t4] 31))
    clear ST2 SB2 CB2 CR2 CS2 hsz3 hby hal2 hb3 hby2
    generalize (wy.alloc (.cells #[.int .i64 R2.kd, .int .i64 R2.nm, .string R2.st, .slice u3 v3 t3, .slice u4 v4 t4] 31)) = W3 at ST3 SB3 CN3 YB3 CS3 HS3 ⊢
    obtain ⟨Z0, hZ0⟩ := drop_some hr0 hgt
    have hszt : szT R2 ≤ 100000 := by have := kid_small hkid; rw [HR2.out]; omega
    have HPT : Hid (plainT R2 = true) := hid (by
      have := HPL.out
      rw [plainT_eq, Bool.and_eq_true, Bool.and_eq_true] at this
      rw [HR2.out]
      exact (plainL_get _).1 this.2 i t ht)
    have HDR : Hid (dropP T (⟨key, 0, false⟩ :: r) = putT T ⟨key, 0, false⟩ Z0) := hid (by
      rw [dropP_cons T _ hr0, hidx]
      simp only [hkid, hZ0]
      unfold putT
      rw [hidx]; rfl)
    have HPD := hid (inp_tl (m := 1) HP.out (by simp))
    simp only [List.drop_one, List.tail_cons, List.length_cons, Nat.add_sub_cancel, add_o5] at HPD
    have hle1 : (1 : Int) ≤ (r.length : Int) + 1 := by omega
    have CI := hid (fun X (hX : Below W3.heap.size W3 X) => HIH.out R2 _ _ _ X HPT.out hszt (HVR.out.onto (vonto ST3.out.bel hX)) (HPD.out.onto (vonto ST3.out.bel hX)) HF.out (by omega))
    rw [HR2.out, hZ0, ← HR2.out] at CI
    simp only [vv] at CI
    obtain ⟨l0, l1, l2, l3, l4⟩ := YB3.out
    simp only [Nat.zero_add] at l0 l1 l2 l3 l4
    go_cut [12, 13] (fun vb vo wx => ∃ b o n c o' n' c' Z, vb = .pointer (some ⟨b, 0, none⟩) ∧ vo = .bool true ∧ W3.heap.size ≤ b ∧ Hid (Z = Z0) ∧ Hid (Node wx ⟨b, 0, none⟩ Z (.slice o n c) (.slice o' n' c')) ∧ Hid (HS wx (fun k => W3.heap.size ≤ k ∧ k < wx.heap.size) Z (.slice o n c) (.slice o' n' c')) ∧ Hid (Below W3.heap.size W3 wx))
    case first =>
      refine wp_region_h (S := fun X => Below W3.heap.size W3 X) 10 (by kernel_rfl) (by kernel_rfl) ?_
      have hS0 : Below W3.heap.size W3 W3.drew := (Below.refl _ _).drew
      refine take_h (i := 0) (v := ?_) rfl (by kernel_rfl) (by kernel_rfl) (by kernel_rfl) (fun _ _ _ h => h) (by rfl) ?_ hS0 ?_
      rotate_left
      · (intro X hX; have y20 := keepCell hX l0; have y21 := keepCell hX l1; have y22 := keepCell hX l2; have y23 := keepCell hX l3; have y24 := keepCell hX l4; go_simp; try with_reducible rfl)
      simp only [Act.put, List.setIfInBounds_toArray, List.set_cons_zero, List.set_cons_succ]
      refine take_h (i := 1) (v := ?_) rfl (by kernel_rfl) (by kernel_rfl) (by kernel_rfl) (fun _ _ _ h => h) (by rfl) ?_ hS0 ?_
      rotate_left
      · (intro X hX; have y20 := keepCell hX l0; have y21 := keepCell hX l1; have y22 := keepCell hX l2; have y23 := keepCell hX l3; have y24 := keepCell hX l4; go_simp; try with_reducible rfl)
      simp only [Act.put, List.setIfInBounds_toArray, List.set_cons_zero, List.set_cons_succ]
      refine take_h (i := 2) (v := ?_) rfl (by kernel_rfl) (by kernel_rfl) (by kernel_rfl) (fun _ _ _ h => h) (by rfl) ?_ hS0 ?_
      rotate_left
      · (intro X hX; have y20 := keepCell hX l0; have y21 := keepCell hX l1; have y22 := keepCell hX l2; have y23 := keepCell hX l3; have y24 := keepCell hX l4; go_simp; try with_reducible rfl)
      simp only [Act.put, List.setIfInBounds_toArray, List.set_cons_zero, List.set_cons_succ]
      generalize (if cp = 1 then some a else some ⟨a.block, a.off + 3, none⟩) = oa at HPD CI ⊢
      refine wpAnyH_ready (rs := [3, 7]) (by kernel_rfl) (by simp) ?_
      refine AllReadyH.cons rfl (fun KK hKK => ?_) (AllReadyH.cons rfl (fun KK hKK => ?_) AllReadyH.nil)
      · go_simp
        go_wp2_with (go_at_call 30; go_must (refine (CI.out _ hS0).mono ?_; rintro e wz ⟨Z, X, Y, rfl, hZ, hfg, hbz⟩; have HZ := hid hZ; clear hZ; simp only [vv]))
        obtain ⟨ro1, rn1, rc1, ro2, rn2, rc2, rfl, rfl⟩ := hv_slices hfg.hv
        have hS1 := vonto hS0 hbz
        refine hKK.out _ _ hS1 (fun _ => ?_)
        clear hKK KK
        refine take_h (i := 4) (v := ?_) rfl (by kernel_rfl) (by kernel_rfl) (by kernel_rfl) (fun _ _ _ h => h) (by rfl) ?_ hS1 ?_
        rotate_left
        · (intro X hX; go_simp; try with_reducible rfl)
        simp only [Act.put, List.setIfInBounds_toArray, List.set_cons_zero, List.set_cons_succ]
        refine take_h (i := 5) (v := ?_) rfl (by kernel_rfl) (by kernel_rfl) (by kernel_rfl) (fun _ _ _ h => h) (by rfl) ?_ hS1 ?_
        rotate_left
        · (intro X hX; go_simp; try with_reducible rfl)
        simp only [Act.put, List.setIfInBounds_toArray, List.set_cons_zero, List.set_cons_succ]
        refine take_h (i := 6) (v := ?_) rfl (by kernel_rfl) (by kernel_rfl) (by kernel_rfl) (fun _ _ _ h => h) (by rfl) ?_ hS1 ?_
        rotate_left
        · (intro X hX; go_simp; try with_reducible rfl)
        simp only [Act.put, List.setIfInBounds_toArray, List.set_cons_zero, List.set_cons_succ]
        refine step_h (i := 7) rfl (by kernel_rfl) ?_
        intro KK hKK
        go_simp
        refine hKK.out _ _ (valloc_bel hS1 _) (fun _ => ?_)
        clear hKK KK
        refine step_h (i := 8) rfl (by kernel_rfl) ?_
        intro KK hKK
        go_simp
        have HN2 := hid (bx_new hfg.hv 31).1
        have HH2 := hid (HS.on (hi := W3.heap.size) hfg (valloc_bel (Below.refl _ _) (.cells #[.int .i64 Z.kd, .int .i64 Z.nm, .string Z.st, .slice ro1 rn1 rc1, .slice ro2 rn2 rc2] 31)) (Nat.le_refl _))
        have hS2 := valloc_bel hS1 (.cells #[.int .i64 Z.kd, .int .i64 Z.nm, .string Z.st, .slice ro1 rn1 rc1, .slice ro2 rn2 rc2] 31)
        refine hKK.out _ _ hS2 (fun _ => ?_)
        clear hKK KK
        refine take_h (i := 9) (v := ?_) rfl (by kernel_rfl) (by kernel_rfl) (by kernel_rfl) (fun _ _ _ h => h) (by rfl) ?_ hS2 ?_
        rotate_left
        · (intro X hX; go_simp; try with_reducible rfl)
        simp only [Act.put, List.setIfInBounds_toArray, List.set_cons_zero, List.set_cons_succ]
        refine wpAnyH_done (by kernel_rfl) ?_ _
        go_wp2_with fail
        go_meet
        exact ⟨wz.heap.size, ro1, rn1, rc1, ro2, rn2, rc2, Z, rfl, rfl, hS1.size, HZ, HN2, HH2, hid hS2⟩
      · go_simp
        have hS1 : Below W3.heap.size W3 (W3.alloc (.cells #[.int .i64 0, .int .i64 0, .string ⟨#[]⟩, .slice none 0 0, .slice none 0 0] 31)).drew := (valloc_bel (Below.refl _ _) _).drew
        have hz := z5_new W3
        refine hKK.out _ _ hS1 (fun _ => ?_)
        clear hKK KK
        refine step_h (i := 3) rfl (by kernel_rfl) ?_
        intro KK hKK
        go_simp
        go_wp2_with (go_at_call 30; go_must (refine (CI.out _ hS1).mono ?_; rintro e wz ⟨Z, X, Y, rfl, hZ, hfg, hbz⟩; have HZ := hid hZ; clear hZ; simp only [vv]))
        obtain ⟨ro1, rn1, rc1, ro2, rn2, rc2, rfl, rfl⟩ := hv_slices hfg.hv
        have hS2 := vonto hS1 hbz
        have hz2 : Z5 wz W3.heap.size := (hz.onto (Below.refl _ _).drew).onto hbz
        have HZ2 := hid hz2
        obtain ⟨⟨q0, q1, q2, q3, q4⟩, qf⟩ := hz2
        refine hKK.out _ _ hS2 (fun _ => ?_)
        clear hKK KK
        refine take_h (i := 4) (v := ?_) rfl (by kernel_rfl) (by kernel_rfl) (by kernel_rfl) (fun _ _ _ h => h) (by rfl) ?_ hS2 ?_
        rotate_left
        · (intro X hX; go_simp; try with_reducible rfl)
        simp only [Act.put, List.setIfInBounds_toArray, List.set_cons_zero, List.set_cons_succ]
        refine take_h (i := 5) (v := ?_) rfl (by kernel_rfl) (by kernel_rfl) (by kernel_rfl) (fun _ _ _ h => h) (by rfl) ?_ hS2 ?_
        rotate_left
        · (intro X hX; go_simp; try with_reducible rfl)
        simp only [Act.put, List.setIfInBounds_toArray, List.set_cons_zero, List.set_cons_succ]
        refine take_h (i := 6) (v := ?_) rfl (by kernel_rfl) (by kernel_rfl) (by kernel_rfl) (fun _ _ _ h => h) (by rfl) ?_ hS2 ?_
        rotate_left
        · (intro X hX; go_simp; try with_reducible rfl)
        simp only [Act.put, List.setIfInBounds_toArray, List.set_cons_zero, List.set_cons_succ]
        refine step_h (i := 8) rfl (by kernel_rfl) ?_
        intro KK hKK
        go_simp
        have hS3 : Below W3.heap.size W3 (put5 wz W3.heap.size 0 (.int .i64 Z.kd) (.int .i64 Z.nm) (.string Z.st) (.slice ro1 rn1 rc1) (.slice ro2 rn2 rc2)) := put5_bel hS2 (Nat.le_refl _)
        have HH3 := hid (put5_hs (w := wz) (b := W3.heap.size) (v0 := .int .i64 Z.kd) (v1 := .int .i64 Z.nm) (v2 := .string Z.st) (v3 := .slice ro1 rn1 rc1) (v4 := .slice ro2 rn2 rc2) (lo := W3.heap.size + 1) (by omega) (hfg.onto (fun _ _ => rfl) (fun k hk => ⟨by have := hk.1; rw [show (W3.alloc (.cells #[.int .i64 0, .int .i64 0, .string ⟨#[]⟩, .slice none 0 0, .slice none 0 0] 31)).drew.heap.size = W3.heap.size + 1 from World.size_alloc _ _] at this; exact this, hk.2⟩)) (lo' := W3.heap.size) (by omega))
        have HN3 := hid (z5_put HZ2.out Z (.slice ro1 rn1 rc1) (.slice ro2 rn2 rc2))
        simp only [put5, Nat.zero_add] at hS3 HH3 HN3
        refine hKK.out _ _ hS3 (fun _ => ?_)
        clear hKK KK q0 q1 q2 q3 q4 qf
        refine take_h (i := 9) (v := ?_) rfl (by kernel_rfl) (by kernel_rfl) (by kernel_rfl) (fun _ _ _ h => h) (by rfl) ?_ hS3 ?_
        rotate_left
        · (intro X hX; go_simp; try with_reducible rfl)
        simp only [Act.put, List.setIfInBounds_toArray, List.set_cons_zero, List.set_cons_succ]
        refine wpAnyH_done (by kernel_rfl) ?_ _
        go_wp2_with fail
        go_meet
        exact ⟨W3.heap.size, ro1, rn1, rc1, ro2, rn2, rc2, Z, rfl, rfl, Nat.le_refl _, HZ, HN3, HH3, hid hS3⟩
    case rest =>
    obtain ⟨b, zo1, zn1, zc1, zo2, zn2, zc2, Z, rfl, rfl, hbb, HZ, HN, HH, HB⟩ := hcut
    have h3s := HS3.out
    have hzs := HB.out.size
    have hbig := ST3.out.big
    have HCN := hid (CN3.out.onto HB.out)
    have HZP := hid (ST3.out.on HB.out).zero
    have f0 := (SB3.out.onto HB.out).c0
    have HCS := hid (CS3.out.onto (S' := fun k => wg.heap.size + 2 ≤ k ∧ k < wc.heap.size) (fun k hk => HB.out.block k (by omega)) (fun k hk => ⟨hk.1, by omega⟩))
    have HZS := hid (HH.out.onto (S' := fun k => wg.heap.size + 2 ≤ k ∧ k < wc.heap.size) (fun k hk => rfl) (fun k hk => ⟨by omega, by omega⟩))
    have hbP := vonto ST3.out.bel HB.out
    have hwcb : w.heap.size + 2 ≤ wc.heap.size := by omega
    have hvl : T.vs.length ≤ 100000 := by have := (len_sz T).2; omega
    have CW := hid (withS_any (fun k => wg.heap.size + 2 ≤ k ∧ k < wc.heap.size) T _ _ key Z _ _ wc HCS.out HZS.out SKM.out hvl)
    simp only [vv] at CW
    obtain ⟨m0, m1, m2, m3, m4⟩ := HCN.out
    obtain ⟨j0, j1, j2, j3, j4⟩ := HN.out
    simp only [Nat.zero_add] at m0 m1 m2 m3 m4 j0 j1 j2 j3 j4
    clear h3s hzs l0 l1 l2 l3 l4
    go_wp2_with fail
    go_at_call 57
    refine CW.out.mono ?_
    rintro e wW ⟨A, E, oE, mE, cE, hA1, hA2, hE, rfl, hWR, hbW⟩
    have HPW := hid (with_put HPL.out H6.out (s := ⟨key, 0, false⟩) rfl hA1 hA2 hE.out)
    have HWS := hid (with_hs hWR hbW (fun k hk => hk.2))
    have HBW := hid (vonto hbP hbW)
    have HZW := hid (HZP.out.onto hbW)
    have hbws := hbW.size
    have HNO : Hid (dropP T (⟨key, 0, false⟩ :: r) = some (.mk 6 0 ⟨#[]⟩ [] (E.map (·.1)) (E.map (·.2.1)))) := hid (by rw [HDR.out, ← HPW.out, HZ.out])
    clear CW m0 m1 m2 m3 m4 j0 j1 j2 j3 j4 hA1 hA2 hE hWR hbW f0
    obtain ⟨⟨q0, q1, q2, q3, q4⟩, qf⟩ := HZW.out
    go_wp2_with fail
    obtain ⟨r0, r1, r2, r3, r4⟩ := z5_put HZW.out (.mk 6 0 ⟨#[]⟩ [] (E.map (·.1)) (E.map (·.2.1))) (.slice none 0 0) (.slice oE mE cE)
    simp only [put5, Nat.zero_add, VT.kd, VT.nm, VT.st] at r0 r1 r2 r3 r4
    refine bodyPost_ret (v := .tuple #[vv (.mk 6 0 ⟨#[]⟩ [] (E.map (·.1)) (E.map (·.2.1))) (.slice none 0 0) (.slice oE mE cE), .bool true]) (by simp [results, Tryz.results30, go_sem, vv, VT.kd, VT.nm, VT.st, r0, r1, r2, r3, r4]) rfl ⟨(.mk 6 0 ⟨#[]⟩ [] (E.map (·.1)) (E.map (·.2.1))), _, _, by rw [HNO.out]; rfl, by rw [HNO.out]; rfl, ?_, box5_bel HBW.out _ (by omega) _ _ _ _ _⟩
    exact put5_hs (lo := w.heap.size + 2) (by omega) (HWS.out.onto (fun k hk => rfl) (fun k hk => by rcases hk with h | h <;> exact ⟨by omega, by omega⟩)) (by omega)
end Go.Proofs.YtjcejjejlekelaaGreatDoor
namespace Go.Proofs.YtjcejjejlekelaaGreatDoor
open Go.RowKit

theorem set5_any : ∀ (p : List PStep), Set5Ok p
  | [] => fun T U x y x' y' v w _ _ hzU hT hU hp _ _ => set5_nil T U x y x' y' v w hT hU hzU hp
  | ⟨key, at_, pl⟩ :: r => fun T U x y x' y' v w hpl hz hzU hT hU hp hf hl => by
    have hfr : ∀ s ∈ r, Frm s := fun s hs => hf s (List.mem_cons_of_mem _ hs)
    rcases hf _ (List.mem_cons_self ..) with ⟨h1, h2, h3, h4⟩ | ⟨h1, h2⟩
    · simp only at h1 h2 h3 h4
      subst h1 h2
      obtain ⟨i, rfl⟩ : ∃ i : Nat, at_ = i := ⟨at_.toNat, by omega⟩
      exact set5_place r (set5_any r) i (by omega) T U x y x' y' v w hpl hz hzU hT hU hp hfr hl
    · simp only at h1 h2
      subst h1 h2
      have hks : key.size ≤ maxLen := by obtain ⟨a, -, hc⟩ := hp; exact (hc 0 _ rfl).2.2.2
      exact set5_key r (set5_any r) key hks T U x y x' y' v w hpl hz hzU hT hU hp hfr hl
theorem drop5_any : ∀ (p : List PStep), Drop5Ok p
  | [] => fun T x y v w _ _ hT hp hf hl => drop5_no [] T x y v w hT hp hf hl (Or.inr rfl)
  | ⟨key, at_, pl⟩ :: r => fun T x y v w hpl hz hT hp hf hl => by
    cases hg : getP T (⟨key, at_, pl⟩ :: r) with
    | none =>
      rw [drop_none _ T (hv_wfT (szT T) (Nat.le_refl _) hT) hg]
      exact drop5_no _ T x y v w hT hp hf hl (Or.inl hg)
    | some G =>
      rcases hf _ (List.mem_cons_self ..) with ⟨h1, h2, h3, h4⟩ | ⟨h1, h2⟩
      · simp only at h1 h2 h3 h4
        subst h1 h2
        obtain ⟨i, rfl⟩ : ∃ i : Nat, at_ = i := ⟨at_.toNat, by omega⟩
        exact drop5_place r (drop5_any r) i (by omega) T G x y v w hpl hz hT hp hf hl hg
      · simp only at h1 h2
        subst h1 h2
        exact drop5_key r (drop5_any r) key T G x y v w hpl hz hT hp hf hl hg
end Go.Proofs.YtjcejjejlekelaaGreatDoor
