/- Plain mathematics: a value's text is letters; read whole, cut off, and with more behind it. -/
import Derived.Test.YtkhjahpkbjafaaaGreatDoorQMathVal
import Derived.Test.YtkhjahpkbjafaaaGreatDoorQShelf2
import Derived.Test.YtkhjahpkbjafaaaGreatDoorQEscK
import Derived.Test.YtkhjahpkbjafaaaGreatDoorQRefOne
import Derived.Test.YtkhjahpkbjafaaaGreatDoorQRefDec
import Derived.Deep.RegionWith
/- The document's own writing of whole numbers, walked: Text. -/
namespace Go.Proofs.YtkhjahpkbjafaaaGreatDoor
open Go.RowKit

set_option maxRecDepth 100000 in
theorem qbB_lt : ∀ m < 128, ∀ b ∈ qbB m, b.toNat < 128 := by decide
theorem qst_vl (l : List UInt8) (h : tkN l ≠ 0) : Vl (qst false l) := by
  unfold qst
  rw [if_neg h]
  split
  · exact vl_one h
  · rename_i hc
    exact vl_ascii (qbB_lt _ (tk_small h (fun h1 => hc (Or.inl h1))))
theorem qtK_vl (s : List UInt8) (hv : ∀ j < cnt s, tkN (s.drop (pos s j)) ≠ 0) : ∀ k ≤ cnt s, Vl (qtK false s k)
  | 0, _ => vl_ascii (by simp [qtK])
  | k + 1, hk => by
    rw [qtK_succ]
    exact (qtK_vl s hv k (by omega)).app (qst_vl _ (hv k (by omega)))
theorem qtA_vl {s : List UInt8} (h : Vl s) : Vl (qtA false s) := by
  unfold qtA
  exact (qtK_vl s h.vld _ (Nat.le_refl _)).app (vl_ascii (by simp))
theorem num_lt {b : UInt8} (h : numC b = true) : b.toNat < 128 := by
  unfold numC numS at h
  simp only [Bool.or_eq_true, decide_eq_true_eq] at h
  omega
theorem tk_vl {t : Tk} {R : List UInt8} (h : t.ok R) : Vl t.tx := by
  cases t with
  | bl b =>
    refine vl_ascii (fun x hx => ?_)
    have := h x hx
    unfold blB at this
    have := of_decide_eq_true this
    omega
  | sg c =>
    refine vl_ascii (fun x hx => ?_)
    have h1 : sgnB c = true := h
    unfold sgnB at h1
    have := of_decide_eq_true h1
    rw [List.mem_singleton.1 hx]; omega
  | st s => exact qtA_vl h.1
  | nu s =>
    have hN := h.1
    unfold numB at hN
    rw [Bool.and_eq_true, Bool.and_eq_true] at hN
    exact vl_ascii (fun x hx => num_lt ((num_bytes hN.1.1).1 x hx))
  | li s =>
    refine vl_ascii (fun x hx => ?_)
    have := (lit_head h.1).2 x hx
    unfold lowC at this
    have := of_decide_eq_true this
    omega
theorem okR_vl {R : List UInt8} : ∀ (ts : List Tk), okR R ts → Vl (txs ts)
  | [], _ => by rw [show txs [] = [] from rfl]; exact Vl.nil
  | t :: r, h => by rw [txs_cons]; exact (tk_vl h.1).app (okR_vl r h.2)
theorem val_beg {v : VT} (hp : plainT v = true) (hw : wfT v) {ws : List Wd} (h : ws.map shp = shV v) : ∃ x r, ws = x :: r ∧ begB x = true := by
  cases v with
  | mk k n s L K V =>
    rw [shV] at h
    split at h
    · obtain ⟨x, b, rfl, hx, -⟩ := map_cons' h
      exact ⟨x, b, rfl, beg_sg hx (Or.inr rfl)⟩
    · split at h
      · obtain ⟨x, b, rfl, hx, -⟩ := map_cons' h
        exact ⟨x, b, rfl, beg_sg hx (Or.inl rfl)⟩
      · obtain ⟨x, b, rfl, hx, -⟩ := map_cons' h
        rw [plainT, Bool.and_eq_true, Bool.and_eq_true] at hp
        exact ⟨x, b, rfl, (sp_one hp.1.1 hw (by assumption) (by assumption) x hx).2.2.1⟩
/-- a value's text is read as that value (a stamp as a string) -/
theorem val_rds (i : Option Nat) (v : VT) (hp : plainT v = true) (hw : wfT v) (d a : Nat) (hd : d + hgT v ≤ 33) : Rds d (wdsN a (tkV i v)) (bkT v) (szT v) := by
  have hs : (wdsN a (tkV i v)).map shp = shV v := by rw [wdsN_sh, sh_val]
  exact ⟨val_beg hp hw hs, fun n f r hn hf => jr_sp (szT v) v (Nat.le_refl _) hp hw _ r d n f hs hd hn hf⟩
theorem val_reads (i : Option Nat) (v : VT) (hp : plainT v = true) (hw : wfT v) (hh : hgT v ≤ 32) (hz : szT v ≤ 4096) (hl : (txs (tkV i v)).length ≤ 65536) : ∃ q, jrA (txs (tkV i v)) = .ok (bkT v) (szT v) q := by
  have h0 := val_ok i v hp hw [] edr_nil
  exact ⟨_, jrA_rds (cut_tokN ((okT_R _).2 h0) hl (okR_vl _ h0)) (val_rds i v hp hw 1 0 (by omega)) rfl hz⟩
/-- the same of shapes -/
def balS : List (Nat × List UInt8) → Int
  | [] => 0
  | x :: r => (if x.1 = 1 then (if x.2 = [91] ∨ x.2 = [123] then 1 else if x.2 = [93] ∨ x.2 = [125] then -1 else 0) else 0) + balS r
theorem balS_app : ∀ a b, balS (a ++ b) = balS a + balS b
  | [], b => by simp [balS]
  | x :: a, b => by rw [List.cons_append, balS, balS, balS_app a b, Int.add_assoc]
/-- even at its end, and never below nought ahead of it -/
def Evn (A : List (Nat × List UInt8)) : Prop := balS A = 0 ∧ ∀ P, P <+: A → 0 ≤ balS P
theorem pre_app {α : Type} {P A B : List α} (h : P <+: A ++ B) : P <+: A ∨ ∃ Q, P = A ++ Q ∧ Q <+: B := by
  obtain ⟨R, hR⟩ := h
  rcases List.append_eq_append_iff.1 hR with ⟨C, h1, h2⟩ | ⟨C, h1, h2⟩
  · left; exact ⟨C, h1.symm⟩
  · right; exact ⟨C, h1, ⟨R, h2.symm⟩⟩
theorem evn_nil : Evn [] := ⟨rfl, fun P h => by rw [List.prefix_nil.1 h]; decide⟩
theorem Evn.app {A B : List (Nat × List UInt8)} (h : Evn A) (g : Evn B) : Evn (A ++ B) := by
  refine ⟨by rw [balS_app, h.1, g.1]; rfl, fun P hP => ?_⟩
  rcases pre_app hP with h1 | ⟨Q, rfl, h1⟩
  · exact h.2 P h1
  · rw [balS_app, h.1]
    have := g.2 Q h1
    omega
theorem evn_one {p : Nat × List UInt8} (h : balS [p] = 0) : Evn [p] := by
  refine ⟨h, fun P hP => ?_⟩
  rcases P with _ | ⟨x, _ | ⟨y, r⟩⟩
  · decide
  · obtain ⟨R, hR⟩ := hP
    simp at hR
    rw [hR.1, h]; decide
  · have := hP.length_le
    simp at this
theorem shS_bal (k n : Int) (s : ByteArray) : balS [shS k n s] = 0 := by
  unfold shS
  (repeat' split) <;> simp [balS]
theorem Evn.wrap {A : List (Nat × List UInt8)} {o c : UInt8} (h : Evn A) (ho : balS [(1, [o])] = 1) (hc : balS [(1, [c])] = -1) : Evn ((1, [o]) :: (A ++ [(1, [c])])) ∧ ∀ P, P <+: (1, [o]) :: (A ++ [(1, [c])]) → P ≠ [] → P ≠ (1, [o]) :: (A ++ [(1, [c])]) → 1 ≤ balS P := by
  have key : ∀ P, P <+: (1, [o]) :: (A ++ [(1, [c])]) → P ≠ [] → P ≠ (1, [o]) :: (A ++ [(1, [c])]) → 1 ≤ balS P := by
    intro P hP h0 h1
    cases P with
    | nil => exact absurd rfl h0
    | cons x Q =>
      obtain ⟨R, hR⟩ := hP
      rw [List.cons_append, List.cons.injEq] at hR
      obtain ⟨rfl, hR⟩ := hR
      rw [show (1, [o]) :: Q = [(1, [o])] ++ Q from rfl, balS_app, ho]
      rcases pre_app ⟨R, hR⟩ with h2 | ⟨S, rfl, h2⟩
      · have := h.2 Q h2
        omega
      · rcases S with _ | ⟨y, _ | ⟨z, r⟩⟩
        · rw [List.append_nil, h.1]; decide
        · obtain ⟨R2, hR2⟩ := h2
          simp at hR2
          rw [hR2.1] at h1
          exact absurd rfl h1
        · have := h2.length_le
          simp at this
  refine ⟨⟨?_, fun P hP => ?_⟩, key⟩
  · rw [show (1, [o]) :: (A ++ [(1, [c])]) = [(1, [o])] ++ (A ++ [(1, [c])]) from rfl, balS_app, balS_app, ho, hc, h.1]; decide
  · by_cases h0 : P = []
    · rw [h0]; decide
    · by_cases h1 : P = (1, [o]) :: (A ++ [(1, [c])])
      · rw [h1, show (1, [o]) :: (A ++ [(1, [c])]) = [(1, [o])] ++ (A ++ [(1, [c])]) from rfl, balS_app, balS_app, ho, hc, h.1]; decide
      · have := key P hP h0 h1
        omega
mutual
theorem evn_val : ∀ v : VT, Evn (shV v)
  | .mk k n s L K V => by
    rw [shV]
    split
    · exact ((evn_list L).wrap (by decide) (by decide)).1
    · split
      · exact ((evn_map V K).wrap (by decide) (by decide)).1
      · exact evn_one (shS_bal k n s)
theorem evn_list : ∀ L : List VT, Evn (shL L)
  | [] => by rw [shL]; exact evn_nil
  | t :: r => by rw [shL]; exact (evn_val t).app (evn_listc r)
theorem evn_listc : ∀ L : List VT, Evn (shLc L)
  | [] => by rw [shLc]; exact evn_nil
  | t :: r => by rw [shLc]; exact Evn.app (A := [(1, [44])]) (evn_one (by decide)) ((evn_val t).app (evn_listc r))
theorem evn_map : ∀ (V : List VT) (K : List ByteArray), Evn (shM V K)
  | [], K => by rw [shM]; exact evn_nil
  | t :: r, K => by rw [shM]; exact Evn.app (A := [_]) (evn_one (by simp [balS])) (Evn.app (A := [(1, [58])]) (evn_one (by decide)) ((evn_val t).app (evn_mapc r K.tail)))
theorem evn_mapc : ∀ (V : List VT) (K : List ByteArray), Evn (shMc V K)
  | [], K => by rw [shMc]; exact evn_nil
  | t :: r, K => by rw [shMc]; exact Evn.app (A := [(1, [44])]) (evn_one (by decide)) (Evn.app (A := [_]) (evn_one (by simp [balS])) (Evn.app (A := [(1, [58])]) (evn_one (by decide)) ((evn_val t).app (evn_mapc r K.tail))))
end
end Go.Proofs.YtkhjahpkbjafaaaGreatDoor
namespace Go.Proofs.YtkhjahpkbjafaaaGreatDoor
open Go.RowKit

/-- one cell, read as a text -/
theorem conv_at (w : World) (g : Nat) (x : Int) (hc : w.cell? ⟨g, 0, none⟩ = some (.int .u8 x)) :
    (convert 34 9 (.slice (some ⟨g, 0, none⟩) 1 1)).run Tryz.prog w = .ok (.string (strOfNums [x])) w := by
  refine run_convert_bytes_arg _ 34 5 Tryz.underlying34 Tryz.underlying5 _ 0 1 1 [x] rfl (fun i hi => ?_) 9 Tryz.underlying9
  obtain rfl : i = 0 := by omega
  rw [hc]; rfl
theorem natD_small (n : Nat) (h : n < 10) : natD n = [UInt8.ofNat (48 + n)] := by rw [natD, if_pos h]
theorem natD_big (n : Nat) (h : ¬ n < 10) : natD n = natD (n / 10) ++ [UInt8.ofNat (48 + n % 10)] := by rw [natD, if_neg h]
theorem natD_len : ∀ (k n : Nat), n < 10 ^ (k + 1) → (natD n).length ≤ k + 1
  | 0, n, h => by rw [natD_small n (by omega)]; simp
  | k + 1, n, h => by
    by_cases hn : n < 10
    · rw [natD_small n hn]; simp
    · rw [natD_big n hn, List.length_append]
      have := natD_len k (n / 10) (by rw [Nat.pow_succ] at h; omega)
      simp; omega
theorem ofNat_int (n : Int) (h : 0 ≤ n) : UInt8.ofNat (48 + n.toNat) = UInt8.ofNat (48 + n).toNat := by congr 1; omega
theorem nums_int (x : Int) : strOfNums [x] = mkS [UInt8.ofNat x.toNat] := by
  apply mkS_of; simp [strOfNums]
set_option maxRecDepth 100000 in
set_option maxHeartbeats 1000000 in
theorem text_pos : ∀ (k : Nat) (n : Int), 0 ≤ n → n < 10 ^ (k + 1) → n < 9223372036854775808 → ∀ (w : World),
    Calls Tryz.prog 19 #[.int .i64 n] w fun e w' => e = .returned (.string (mkS (natD n.toNat))) ∧ Below w.heap.size w w' := by
  intro k
  induction k with
  | zero =>
    intro n h0 h10 _ w
    have h1 : n < 10 := by omega
    have h2 : ¬ n < 0 := by omega
    have ho : (48 + n) % 256 = 48 + n := by omega
    have hcv := conv_new w [48 + n] 1 rfl
    simp only [List.map] at hcv
    rw [nums_int, ← ofNat_int n h0, ← natD_small n.toNat (by omega)] at hcv
    clear h10
    go_enter Tryz.func19, Tryz.ntmps19
    go_wp2_with fail
    go_ret
    exact ⟨rfl, (Below.refl _ _).alloc (Nat.le_refl _) _⟩
  | succ k ih =>
    intro n h0 hk hm w
    have h2 : ¬ n < 0 := by omega
    by_cases h1 : n < 10
    · have ho : (48 + n) % 256 = 48 + n := by omega
      have hcv := conv_new w [48 + n] 1 rfl
      simp only [List.map] at hcv
      rw [nums_int, ← ofNat_int n h0, ← natD_small n.toNat (by omega)] at hcv
      clear hk ih
      go_enter Tryz.func19, Tryz.ntmps19
      go_wp2_with fail
      go_ret
      exact ⟨rfl, (Below.refl _ _).alloc (Nat.le_refl _) _⟩
    · have ho : (48 + n % 10) % 256 = 48 + n % 10 := by omega
      have hq0 : 0 ≤ n / 10 := by omega
      have IH := hid (ih (n / 10) hq0 (by rw [Int.pow_succ] at hk; omega) (by omega))
      clear ih hk
      have hl1 : (natD (n / 10).toNat).length ≤ 19 := natD_len 18 _ (by omega)
      have hs1 : (mkS (natD (n / 10).toNat)).size ≤ 19 := by rw [mkS_size]; exact hl1
      have hs2 : (mkS [UInt8.ofNat (48 + n % 10).toNat]).size = 1 := mkS_size _
      have HA := hid (show mkS (natD (n / 10).toNat) ++ mkS [UInt8.ofNat (48 + n % 10).toNat] = mkS (natD n.toNat) by
        rw [mkS_add, natD_big n.toNat (by omega), show (n / 10).toNat = n.toNat / 10 by omega, show (48 + n % 10).toNat = 48 + n.toNat % 10 by omega])
      have hcv0 := conv_at (w.alloc (.cells #[.int .u8 (48 + n % 10)] 5)).drew w.heap.size (48 + n % 10) (new_cells w [.int .u8 (48 + n % 10)] 5 0 _ rfl)
      rw [nums_int] at hcv0
      have hwq : IntKind.i64.wrap (n.tdiv 10) = n / 10 := by rw [Int.tdiv_eq_ediv_of_nonneg h0, wraps_i64 _ hq0 (by omega)]
      have hwr : n.tmod 10 = n % 10 := Int.tmod_eq_emod_of_nonneg h0
      have hwu : IntKind.u8.wrap (48 + n % 10) = 48 + n % 10 := by rw [IntKind.wrap_u8]; omega
      have hwa : IntKind.i64.wrap (48 + n % 10) = 48 + n % 10 := wraps_i64 _ (by omega) (by omega)
      clear hl1
      go_enter Tryz.func19, Tryz.ntmps19
      go_wp2_with fail
      go_region_with (go_at_call 19; go_must (refine (IH.out _).mono ?_; rintro e w1 ⟨rfl, hb1⟩; have hcv1 := conv_new w1 [48 + n % 10] 1 rfl; simp only [List.map, nums_int] at hcv1; try (have hcv2 := conv_at w1 w.heap.size (48 + n % 10) ((hb1.cell (p := ⟨w.heap.size, 0, none⟩) (by simp)).trans (new_cells w.drew [.int .u8 (48 + n % 10)] 5 0 _ rfl)); rw [nums_int] at hcv2)))
      all_goals
        go_wp2_with fail
        go_ret
        refine ⟨by rw [← HA.out]; rfl, ?_⟩
        first
          | exact ((Below.refl _ _).drew.trans hb1).alloc hb1.size _
          | exact (((Below.refl _ _).alloc (Nat.le_refl _) _).drew).trans (hb1.mono (by simp))
theorem natD_top : mkS (45 :: natD 9223372036854775808) = ⟨#[45, 57, 50, 50, 51, 51, 55, 50, 48, 51, 54, 56, 53, 52, 55, 55, 53, 56, 48, 56]⟩ := by
  decide +kernel
theorem natD_txt (n : Int) (h : n < 0) : (⟨#[45]⟩ : ByteArray) ++ mkS (natD (-n).toNat) = mkS (txt n) := by
  unfold txt; rw [if_pos h, show (⟨#[45]⟩ : ByteArray) = mkS [45] by rfl, mkS_add]; rfl
set_option maxRecDepth 100000 in
set_option maxHeartbeats 1000000 in
theorem text_any (n : Int) (w : World) (h1 : -9223372036854775808 ≤ n) (h2 : n < 9223372036854775808) :
    Calls Tryz.prog 19 #[.int .i64 n] w fun e w' => e = .returned (.string (mkS (txt n))) ∧ Below w.heap.size w w' := by
  by_cases h0 : n < 0
  · by_cases hm : n = -9223372036854775808
    · subst hm
      have H := hid (show mkS (txt (-9223372036854775808)) = _ from natD_top)
      rw [H.out]
      go_enter Tryz.func19, Tryz.ntmps19
      go_wp2_with fail
      go_ret
      exact ⟨rfl, Below.refl _ _⟩
    · have hm' : (n == -9223372036854775808) = false := by simpa using hm
      have H := hid (natD_txt n h0)
      have hs1 : (mkS (natD (-n).toNat)).size ≤ 19 := by rw [mkS_size]; exact natD_len 18 _ (by omega)
      have IH := hid (text_pos 18 (-n) (by omega) (by omega) (by omega))
      have hx : -9223372036854775808 < n := by omega
      clear hm
      go_enter Tryz.func19, Tryz.ntmps19
      go_wp2_with (go_at_call 19; go_must (refine (IH.out _).mono ?_; rintro e w1 ⟨rfl, hb1⟩))
      go_ret
      exact ⟨by rw [← H.out]; rfl, hb1⟩
  · have e : txt n = natD n.toNat := by unfold txt; rw [if_neg h0]
    rw [e]
    exact text_pos 18 n (by omega) (by omega) h2 w
end Go.Proofs.YtkhjahpkbjafaaaGreatDoor
