/- The document's own reckoning of trees, walked: steep, Heavy, Deep. -/
import Derived.Test.YtiaepihdfbahaaaGreatDoorAVSameT
import Derived.Deep.LoopGhost
import Derived.Test.YtiaepihdfbahaaaGreatDoorAVPlus
import Derived.Test.YtiaepihdfbahaaaGreatDoorAVCopyAll
import Derived.Deep.AppendLies
import Derived.Test.YtiaepihdfbahaaaGreatDoorARefVal6
import Derived.Test.YtiaepihdfbahaaaGreatDoorARpC
import Derived.Test.YtiaepihdfbahaaaGreatDoorAMathPlace
/- Keys that rise; pairs: what they take. -/
/- The document's own reckoning of trees, walked: may a tree be? -/
/- The document's May; what TOML may be, on both sides. -/
namespace Go.Proofs.YtiaepihdfbahaaaGreatDoor
open Go.RowKit

/-- a tree of at most so many nodes, at most so deep -/
def fitB (T : VT) (deep nodes : Int) : Bool := decide ((hgT T : Int) ≤ deep ∧ (szT T : Int) ≤ nodes)
def fitN (T : VT) (deep nodes : Int) : Int := if (hgT T : Int) ≤ deep ∧ (szT T : Int) ≤ nodes then nodes - szT T else 0
theorem fit_yes {T : VT} {d n : Int} (h1 : (hgT T : Int) ≤ d) (h2 : (szT T : Int) ≤ n) : fitB T d n = true ∧ fitN T d n = n - szT T := by
  unfold fitB fitN; rw [if_pos ⟨h1, h2⟩]; exact ⟨by simp; omega, rfl⟩
theorem fit_no {T : VT} {d n : Int} (h : ¬ ((hgT T : Int) ≤ d ∧ (szT T : Int) ≤ n)) : fitB T d n = false ∧ fitN T d n = 0 := by
  unfold fitB fitN; rw [if_neg h]; exact ⟨by simp; omega, rfl⟩
theorem ret_bi {a b : Bool} {c d : Int} (h : a = b) (g : c = d) : Ending.returned (.tuple #[.bool a, .int .i64 c]) = .returned (.tuple #[.bool b, .int .i64 d]) := by rw [h, g]
set_option maxRecDepth 100000 in
set_option maxHeartbeats 1000000 in
theorem steep_any : ∀ (N : Nat) (T : VT) (x y : Value) (d c : Int) (w : World), szT T ≤ N → HV w T x y → -1000000 ≤ d ∧ d ≤ 1000000 → -1000000 ≤ c ∧ c ≤ 1000000 →
    Calls Tryz.prog 20 #[vv T x y, .int .i64 d, .int .i64 c] w fun e w' => e = .returned (.tuple #[.bool (!fitB T d c), .int .i64 (fitN T d c)]) ∧ Below w.heap.size w w' := by
  intro N
  induction N with
  | zero => intro T x y d c w h; have := szT_pos T; omega
  | succ N ih =>
  intro T x y d c w hN hT hd hc
  have hp1 := hgT_pos T
  have hp2 := szT_pos T
  cases hT with
  | mk a b f g p q hk hn hs hL hM hK cL cK cM rL rM =>
  rename_i k n s L K V
  obtain ⟨oL, capL, rfl, hL1, hL2, hL3⟩ := hL
  obtain ⟨oM, capM, rfl, hM1, hM2, hM3⟩ := hM
  unfold maxLen at hL2 hM2
  have hsz : szT (.mk k n s L K V) = 1 + szL L + szL V := by simp only [szT]
  have hhg : hgT (.mk k n s L K V) = 1 + max (hgL L) (hgL V) := by simp only [hgT]
  by_cases hout : d < 1 ∨ c < 1
  · have HF := hid (fit_no (T := .mk k n s L K V) (d := d) (n := c) (by omega))
    have hout' : d < 1 ∨ (¬ d < 1 ∧ c < 1) := by omega
    clear hout
    simp only [vv, VT.kd, VT.nm, VT.st]
    rcases hout' with h | ⟨h, h'⟩
    all_goals
      go_enter Tryz.func20, Tryz.ntmps20
      go_wp2_with fail
      go_ret2
      exact ⟨ret_bi (by rw [HF.out.1]; rfl) HF.out.2.symm, (Below.refl _ _).alloc (Nat.le_refl _) _⟩
  · have hd1 : ¬ d < 1 := by omega
    have hc1 : ¬ c < 1 := by omega
    clear hout
    have HNO := hid (fun h => fit_no (T := .mk k n s L K V) (d := d) (n := c) h)
    have HYES := hid (fun h1 h2 => fit_yes (T := .mk k n s L K V) (d := d) (n := c) h1 h2)
    rw [hsz, hhg] at HNO HYES
    rw [hsz] at hN
    simp only [vv, VT.kd, VT.nm, VT.st]
    clear hp1 hp2 hsz hhg
    go_enter Tryz.func20, Tryz.ntmps20
    go_wp2_with fail
    go_loopw [2, 8] (fun u i wr => ∃ j : Nat, j ≤ L.length ∧ u = .int .i64 (c - 1 - (szL (L.take j) : Int)) ∧ i = .int .i64 j ∧ (szL (L.take j) : Int) ≤ c - 1 ∧ (hgL (L.take j) : Int) ≤ d - 1 ∧ Below (w.heap.size + 1) (w.alloc (.cells #[.int .i64 k, .int .i64 n, .string s, .slice oL L.length capL, .slice oM V.length capM] 27)) wr) (fun _ i _ => L.length - (intOf i).toNat)
    case atStart => exact ⟨0, Nat.zero_le _, val_int (by simp [szL]), rfl, by simp [szL]; omega, by simp [hgL]; omega, Below.refl _ _⟩
    case round =>
      obtain ⟨j, hj, rfl, rfl, hjs, hjh, hbel⟩ := hrel
      have hbw : Below w.heap.size w wr := ((Below.refl _ _).alloc (Nat.le_refl _) _).trans (hbel.mono (by omega))
      have hB3 := box_cell w wr _ _ _ _ _ _ hbel 3 _ rfl
      have hB4 := box_cell w wr _ _ _ _ _ _ hbel 4 _ rfl
      have hsl := szL_take_le L j
      by_cases hlt : j < L.length
      · obtain ⟨t, ht⟩ : ∃ t, L[j]? = some t := ⟨L[j], List.getElem?_eq_getElem hlt⟩
        obtain rfl := hL3 (by omega)
        obtain ⟨d0, d1, d2, d3, d4⟩ := (cL j t ht).onto hbw
        have hszs := szL_take_succ L j t ht
        have hsl1 := szL_take_le L (j + 1)
        have hhs := hgL_take_succ L j t ht
        have hhl := hgL_take_le L (j + 1)
        have hstep := ih t (f j) (g j) (d - 1) (c - 1 - (szL (L.take j) : Int)) wr (by omega) ((rL j t ht).onto hbw) (by omega) (by omega)
        simp only [vv] at hstep
        by_cases hfit : (hgT t : Int) ≤ d - 1 ∧ (szT t : Int) ≤ c - 1 - (szL (L.take j) : Int)
        · have hy := fit_yes hfit.1 hfit.2
          rw [hy.1, hy.2] at hstep
          have HSTEP := hid hstep
          clear hstep hy
          go_wp2_with (go_at_call 20; go_must (refine HSTEP.out.mono ?_; rintro e w1 ⟨rfl, hb1⟩))
          go_roundw
          case rel => exact ⟨j + 1, hlt, val_int (by rw [hszs]; omega), val_int (by omega), by rw [hszs]; omega, by rw [hhs]; omega, hbel.trans (hb1.mono (by have := hbel.size; simp at this; omega))⟩
          case measure => simp [intOf]; omega
        · have hy := fit_no hfit
          rw [hy.1, hy.2] at hstep
          have HSTEP := hid hstep
          have HF := hid (HNO.out (by omega))
          clear hstep hy
          go_wp2_with (go_at_call 20; go_must (refine HSTEP.out.mono ?_; rintro e w1 ⟨rfl, hb1⟩))
          go_ret2
          exact ⟨ret_bi (by rw [HF.out.1]; rfl) HF.out.2.symm, hbw.trans (hb1.mono hbw.size)⟩
      · have hjL : j = L.length := by omega
        subst hjL
        rw [List.take_length] at hjs hjh ⊢
        go_wp2_with fail
        clear hB3 hB4 hsl
        go_loopw [2, 11] (fun u i wr => ∃ j : Nat, j ≤ V.length ∧ u = .int .i64 (c - 1 - (szL L : Int) - (szL (V.take j) : Int)) ∧ i = .int .i64 j ∧ (szL L : Int) + (szL (V.take j) : Int) ≤ c - 1 ∧ (hgL (V.take j) : Int) ≤ d - 1 ∧ Below (w.heap.size + 1) (w.alloc (.cells #[.int .i64 k, .int .i64 n, .string s, .slice oL L.length capL, .slice oM V.length capM] 27)) wr) (fun _ i _ => V.length - (intOf i).toNat)
        case atStart => exact ⟨0, Nat.zero_le _, val_int (by simp [szL]), rfl, by simp [szL]; omega, by simp [hgL]; omega, hbel⟩
        case round =>
          clear hbw hbel hj hlt
          obtain ⟨j, hj, rfl, rfl, hjs2, hjh2, hbel⟩ := hrel
          have hbw : Below w.heap.size w wr := ((Below.refl _ _).alloc (Nat.le_refl _) _).trans (hbel.mono (by omega))
          have hB4 := box_cell w wr _ _ _ _ _ _ hbel 4 _ rfl
          have hsl := szL_take_le V j
          by_cases hlt : j < V.length
          · obtain ⟨t, ht⟩ : ∃ t, V[j]? = some t := ⟨V[j], List.getElem?_eq_getElem hlt⟩
            obtain rfl := hM3 (by omega)
            have hnode := (cM j t ht).onto hbw
            simp only [Node, nx] at hnode
            obtain ⟨d0, d1, d2, d3, d4⟩ := hnode
            have hszs := szL_take_succ V j t ht
            have hsl1 := szL_take_le V (j + 1)
            have hhs := hgL_take_succ V j t ht
            have hhl := hgL_take_le V (j + 1)
            have hstep := ih t (p j) (q j) (d - 1) (c - 1 - (szL L : Int) - (szL (V.take j) : Int)) wr (by omega) ((rM j t ht).onto hbw) (by omega) (by omega)
            simp only [vv] at hstep
            by_cases hfit : (hgT t : Int) ≤ d - 1 ∧ (szT t : Int) ≤ c - 1 - (szL L : Int) - (szL (V.take j) : Int)
            · have hy := fit_yes hfit.1 hfit.2
              rw [hy.1, hy.2] at hstep
              have HSTEP := hid hstep
              clear hstep hy
              go_wp2_with (go_at_call 20; go_must (refine HSTEP.out.mono ?_; rintro e w1 ⟨rfl, hb1⟩))
              go_roundw
              case rel => exact ⟨j + 1, hlt, val_int (by rw [hszs]; omega), val_int (by omega), by rw [hszs]; omega, by rw [hhs]; omega, hbel.trans (hb1.mono (by have := hbel.size; simp at this; omega))⟩
              case measure => simp [intOf]; omega
            · have hy := fit_no hfit
              rw [hy.1, hy.2] at hstep
              have HSTEP := hid hstep
              have HF := hid (HNO.out (by omega))
              clear hstep hy
              go_wp2_with (go_at_call 20; go_must (refine HSTEP.out.mono ?_; rintro e w1 ⟨rfl, hb1⟩))
              go_ret2
              exact ⟨ret_bi (by rw [HF.out.1]; rfl) HF.out.2.symm, hbw.trans (hb1.mono hbw.size)⟩
          · have hjV : j = V.length := by omega
            subst hjV
            rw [List.take_length] at hjs2 hjh2 ⊢
            have HF := hid (HYES.out (by omega) (by omega))
            go_wp2_with fail
            go_ret2
            exact ⟨ret_bi (by rw [HF.out.1]; rfl) (by rw [HF.out.2]; omega), hbw⟩
set_option maxRecDepth 100000 in
set_option maxHeartbeats 1000000 in
theorem heavy_any (T : VT) (x y : Value) (c d : Int) (w : World) (hT : HV w T x y) (hd : -1000000 ≤ d ∧ d ≤ 1000000) (hc : -1000000 ≤ c ∧ c ≤ 1000000) :
    Calls Tryz.prog 11 #[vv T x y, .int .i64 c, .int .i64 d] w fun e w' => e = .returned (.bool (!fitB T d c)) ∧ Below w.heap.size w w' := by
  have hal : Below w.heap.size w (w.alloc (.cells #[.int .i64 T.kd, .int .i64 T.nm, .string T.st, x, y] 27)) := (Below.refl _ _).alloc (Nat.le_refl _) _
  have HS := hid (steep_any _ T x y d c _ (Nat.le_refl _) (hT.onto hal) hd hc)
  simp only [vv] at HS ⊢
  go_enter Tryz.func11, Tryz.ntmps11
  go_wp2_with (go_at_call 20; go_must (refine HS.out.mono ?_; rintro e w1 ⟨rfl, hb1⟩))
  go_ret
  exact ⟨rfl, hal.trans (hb1.mono hal.size)⟩
end Go.Proofs.YtiaepihdfbahaaaGreatDoor
namespace Go.Proofs.YtiaepihdfbahaaaGreatDoor
open Go.RowKit

/-- in order by their keys -/
def Rising (A : List (ByteArray × VT)) : Prop := ∀ (i j : Nat) (a b : ByteArray × VT), i < j → A[i]? = some a → A[j]? = some b → ltB b.1.data.toList a.1.data.toList = false
/-- the map that is made of pairs in order, or nothing -/
def mapR (A : List (ByteArray × VT)) : VT := if keI (A.map (·.1)) = 0 then .mk 6 0 ⟨#[]⟩ [] (A.map (·.1)) (A.map (·.2)) else zeroT
end Go.Proofs.YtiaepihdfbahaaaGreatDoor
/- Values in boxes, pairs and lists just written down. -/
/- Trees that lie in some blocks: what keeps those blocks keeps the tree. -/
/- A fresh box, and what is put into it. -/
namespace Go.Proofs.YtiaepihdfbahaaaGreatDoor
open Go.RowKit

/-- a tree in a box -/
def Bx (w : World) (b : Nat) (T : VT) (x y : Value) : Prop := Node w ⟨b, 0, none⟩ T x y ∧ HV w T x y
theorem Bx.onto {w w' : World} {b : Nat} {T : VT} {x y : Value} (h : Bx w b T x y) (hb : Below w.heap.size w w') : Bx w' b T x y := ⟨h.1.onto hb, h.2.onto hb⟩
theorem Bx.cells {w : World} {b : Nat} {T : VT} {x y : Value} (h : Bx w b T x y) : w.cell? ⟨b, 0, none⟩ = some (.int .i64 T.kd) ∧ w.cell? ⟨b, 1, none⟩ = some (.int .i64 T.nm) ∧ w.cell? ⟨b, 2, none⟩ = some (.string T.st) ∧ w.cell? ⟨b, 3, none⟩ = some x ∧ w.cell? ⟨b, 4, none⟩ = some y := by
  have := h.1
  simp only [Node, Nat.zero_add] at this
  exact this
theorem bx_new {w : World} {T : VT} {x y : Value} (h : HV w T x y) (t : TypeId) : Bx (w.alloc (.cells #[.int .i64 T.kd, .int .i64 T.nm, .string T.st, x, y] t)) w.heap.size T x y := by
  refine ⟨⟨?_, ?_, ?_, ?_, ?_⟩, h.onto (valloc_bel (Below.refl _ _) _)⟩
  all_goals simp
/-- a pair's cells -/
def pc (a : ByteArray × VT × Value × Value) : List Value := [.string a.1, .int .i64 a.2.1.kd, .int .i64 a.2.1.nm, .string a.2.1.st, a.2.2.1, a.2.2.2]
def vc (a : VT × Value × Value) : List Value := [.int .i64 a.1.kd, .int .i64 a.1.nm, .string a.1.st, a.2.1, a.2.2]
end Go.Proofs.YtiaepihdfbahaaaGreatDoor
namespace Go.Proofs.YtiaepihdfbahaaaGreatDoor
open Go.RowKit

inductive HS (w : World) (S : Nat → Prop) : VT → Value → Value → Prop
  | mk {k n : Int} {s : ByteArray} {L : List VT} {K : List ByteArray} {V : List VT} {x y : Value} (a b : Addr) (f g p q : Nat → Value)
      (hk : (Lit.int .i64 k).wf = true) (hn : (Lit.int .i64 n).wf = true) (hs : s.size ≤ maxLen)
      (hL : SlOf x a L.length) (hM : SlOf y b V.length) (hK : K.length = V.length)
      (iL : 0 < L.length → S a.block) (iM : 0 < V.length → S b.block)
      (cL : ∀ i t, L[i]? = some t → Node w (a.add (i * 5)) t (f i) (g i))
      (cK : ∀ i u, K[i]? = some u → w.cell? (b.add (i * 6)) = some (.string u) ∧ u.size ≤ maxLen)
      (cM : ∀ i t, V[i]? = some t → Node w (nx (b.add (i * 6))) t (p i) (q i))
      (rL : ∀ i t, L[i]? = some t → HS w S t (f i) (g i))
      (rM : ∀ i t, V[i]? = some t → HS w S t (p i) (q i)) : HS w S (.mk k n s L K V) x y
theorem HS.hv {w : World} {S : Nat → Prop} {T : VT} {x y : Value} (h : HS w S T x y) : HV w T x y := by
  induction h with
  | mk a b f g p q hk hn hs hL hM hK iL iM cL cK cM _ _ ihL ihM => exact .mk a b f g p q hk hn hs hL hM hK cL cK cM ihL ihM
theorem addr_block (a : Addr) (i : Nat) : (a.add i).block = a.block := by unfold Addr.add; split <;> rfl
theorem HS.onto {w w' : World} {S S' : Nat → Prop} {T : VT} {x y : Value} (h : HS w S T x y) (hb : ∀ k, S k → w'.heap[k]? = w.heap[k]?) (hS : ∀ k, S k → S' k) : HS w' S' T x y := by
  induction h with
  | mk a b f g p q hk hn hs hL hM hK iL iM cL cK cM _ _ ihL ihM =>
    refine .mk a b f g p q hk hn hs hL hM hK (fun h => hS _ (iL h)) (fun h => hS _ (iM h)) (fun i t h => ?_) (fun i u h => ?_) (fun i t h => ?_) ihL ihM
    · exact (cL i t h).eqs (by rw [addr_block]; exact hb _ (iL (by have := lt_of_some h; omega)))
    · refine ⟨(World.cell?_of_block (w := w) ?_).trans (cK i u h).1, (cK i u h).2⟩
      rw [addr_block]; exact hb _ (iM (by have := lt_of_some h; omega))
    · exact (cM i t h).eqs (by rw [show (nx (b.add (i * 6))).block = (b.add (i * 6)).block from rfl, addr_block]; exact hb _ (iM (by have := lt_of_some h; omega)))
/-- a list in some blocks -/
def LS (w : World) (S : Nat → Prop) (L : List VT) (x : Value) : Prop := ∃ (a : Addr) (f g : Nat → Value), SlOf x a L.length ∧ (0 < L.length → S a.block) ∧ (∀ i t, L[i]? = some t → Node w (a.add (i * 5)) t (f i) (g i)) ∧ (∀ i t, L[i]? = some t → HS w S t (f i) (g i))
/-- pairs in some blocks -/
def MS (w : World) (S : Nat → Prop) (K : List ByteArray) (V : List VT) (y : Value) : Prop := ∃ (b : Addr) (p q : Nat → Value), SlOf y b V.length ∧ K.length = V.length ∧ (0 < V.length → S b.block) ∧
  (∀ i u, K[i]? = some u → w.cell? (b.add (i * 6)) = some (.string u) ∧ u.size ≤ maxLen) ∧ (∀ i t, V[i]? = some t → Node w (nx (b.add (i * 6))) t (p i) (q i)) ∧ (∀ i t, V[i]? = some t → HS w S t (p i) (q i))
theorem LS.onto {w w' : World} {S S' : Nat → Prop} {L : List VT} {x : Value} (h : LS w S L x) (hb : ∀ k, S k → w'.heap[k]? = w.heap[k]?) (hS : ∀ k, S k → S' k) : LS w' S' L x := by
  obtain ⟨a, f, g, h1, h2, h3, h4⟩ := h
  exact ⟨a, f, g, h1, fun h => hS _ (h2 h), fun i t h => (h3 i t h).eqs (by rw [addr_block]; exact hb _ (h2 (by have := lt_of_some h; omega))), fun i t h => (h4 i t h).onto hb hS⟩
theorem HF.hs {w : World} {lo hi : Nat} {T : VT} {x y : Value} (h : HF w lo hi T x y) : HS w (fun k => lo ≤ k ∧ k < hi) T x y := by
  induction h with
  | mk m bL bM l r f g p q hk hn hs hL hM hK lom mhi iL iM oL oM cL cK cM _ _ ihL ihM =>
    refine .mk _ _ f g p q hk hn hs hL.of hM.of hK (fun h => ?_) (fun h => ?_) cL cK cM (fun i t h => ?_) (fun i t h => ?_)
    · have h1 := iL h; have h2 := oL 0 _ (Nat.zero_le _) (Nat.le_refl _); dsimp only; omega
    · have h1 := iM h; have h2 := oM 0 _ (Nat.zero_le _) (Nat.le_refl _); dsimp only; omega
    · have hi := lt_of_some h
      have h1 := iL (by omega)
      have h2 := oL 0 i (Nat.zero_le _) (by omega)
      have h3 := oL (i + 1) _ hi (Nat.le_refl _)
      exact (ihL i t h).onto (fun _ _ => rfl) (fun k hk => by omega)
    · have hi := lt_of_some h
      have h1 := iM (by omega)
      have h2 := oM 0 i (Nat.zero_le _) (by omega)
      have h3 := oM (i + 1) _ hi (Nat.le_refl _)
      exact (ihM i t h).onto (fun _ _ => rfl) (fun k hk => by omega)
end Go.Proofs.YtiaepihdfbahaaaGreatDoor
namespace Go.Proofs.YtiaepihdfbahaaaGreatDoor
open Go.RowKit

/-- a fresh box -/
def Z5 (w : World) (b : Nat) : Prop := (w.cell? ⟨b, 0, none⟩ = some (.int .i64 0) ∧ w.cell? ⟨b, 1, none⟩ = some (.int .i64 0) ∧ w.cell? ⟨b, 2, none⟩ = some (.string ⟨#[]⟩) ∧ w.cell? ⟨b, 3, none⟩ = some (.slice none 0 0) ∧ w.cell? ⟨b, 4, none⟩ = some (.slice none 0 0)) ∧ ∀ o, w.frozen? ⟨b, o, none⟩ = false
theorem Z5.onto {w w' : World} {b : Nat} (h : Z5 w b) (hb : Below w.heap.size w w') : Z5 w' b :=
  ⟨⟨keepCell hb h.1.1, keepCell hb h.1.2.1, keepCell hb h.1.2.2.1, keepCell hb h.1.2.2.2.1, keepCell hb h.1.2.2.2.2⟩, fun o => (hb.frozen (p := ⟨b, o, none⟩) (World.block_lt_of_cell? w ⟨b, 0, none⟩ h.1.1)).trans (h.2 o)⟩
end Go.Proofs.YtiaepihdfbahaaaGreatDoor
namespace Go.Proofs.YtiaepihdfbahaaaGreatDoor
open Go.RowKit

theorem may_fit (T : VT) : mayB 0 1 T = (fitB T 32 4096 && plainT T) := by
  unfold mayB fitB
  congr 1
  exact decide_eq_decide.2 (by omega)
set_option maxRecDepth 100000 in
set_option maxHeartbeats 1000000 in
theorem rvalue_any (T : VT) (x y : Value) (w : World) (hT : HV w T x y) :
    Calls Tryz.prog 21 #[vv T x y] w fun e w' => e = .returned (.bool (mayB 0 1 T)) ∧ Below w.heap.size w w' := by
  have hal : Below w.heap.size w (w.alloc (.cells #[.int .i64 T.kd, .int .i64 T.nm, .string T.st, x, y] 27)) := (Below.refl _ _).alloc (Nat.le_refl _) _
  have HM := hid (may_fit T)
  obtain ⟨o1, n1, c1, o2, n2, c2, rfl, rfl⟩ := hv_slices hT
  have HB := hid (bx_new hT 27)
  have HAL := hid hal
  have HH := hid (heavy_any T _ _ 4096 32 _ HB.out.2 (by omega) (by omega))
  simp only [vv] at HH
  simp only [vv]
  clear hal hT
  cases hf : fitB T 32 4096 with
  | false =>
    rw [hf] at HH HM
    simp only [Bool.not_false] at HH
    go_enter Tryz.func21, Tryz.ntmps21
    go_wp2_with (go_at_call 11; go_must (refine HH.out.mono ?_; rintro e w1 ⟨rfl, hb1⟩))
    go_ret
    exact ⟨ret_bool (by rw [HM.out]; rfl), vonto HAL.out hb1⟩
  | true =>
    rw [hf] at HH HM
    simp only [Bool.not_true] at HH
    go_enter Tryz.func21, Tryz.ntmps21
    go_wp2_with fail
    go_at_call 11
    refine HH.out.mono ?_
    rintro e w1 ⟨rfl, hb1⟩
    have HB1 := hid hb1
    obtain ⟨q0, q1, q2, q3, q4⟩ := (HB.out.onto hb1).cells
    have HP := hid (rplain_any (szT T) T _ _ w1 (Nat.le_refl _) (HB.out.onto hb1).2)
    simp only [vv] at HP
    generalize plainT T = pt at HP HM
    clear hb1
    go_wp2_with fail
    go_at_call 40
    refine HP.out.mono ?_
    rintro e w2 ⟨rfl, hb2⟩
    go_wp2_with fail
    go_ret
    exact ⟨ret_bool (by rw [HM.out]; rfl), vonto (vonto HAL.out HB1.out) hb2⟩
end Go.Proofs.YtiaepihdfbahaaaGreatDoor
namespace Go.Proofs.YtiaepihdfbahaaaGreatDoor
open Go.RowKit

set_option maxRecDepth 100000 in
set_option maxHeartbeats 2000000 in
theorem rpmay_any (T : VT) (x y : Value) (w : World) (hT : HV w T x y) :
    Calls Tryz.prog 12 #[vv T x y] w fun e w' => e = .returned (.bool (tomB T)) ∧ Below w.heap.size w w' := by
  have CG := hid (fun (X : World) (hX : Below w.heap.size w X) => rvalue_any T x y X (hT.onto hX))
  have CS := hid (fun (hp : plainT T = true) (X : World) (hX : Below w.heap.size w X) => rpmay_in (szT T) T x y X (Nat.le_refl _) (hT.onto hX) hp)
  obtain ⟨o1, n1, c1, o2, n2, c2, rfl, rfl⟩ := hv_slices hT
  have hpl : mayB 0 1 T = true → plainT T = true := fun h => by unfold mayB at h; rw [Bool.and_eq_true] at h; exact h.2
  unfold tomB
  simp only [vv] at CG CS ⊢
  generalize mayB 0 1 T = M at *
  generalize syT T = S at *
  have HB0 := hid (valloc_bel (Below.refl w.heap.size w) (.cells #[.int .i64 T.kd, .int .i64 T.nm, .string T.st, .slice o1 n1 c1, .slice o2 n2 c2] 27))
  obtain ⟨f0, f1, f2, f3, f4⟩ := tpbox w (.int .i64 T.kd) (.int .i64 T.nm) (.string T.st) (.slice o1 n1 c1) (.slice o2 n2 c2)
  clear hT
  cases M with
  | false =>
    rw [Bool.false_and, Bool.and_false]
    clear CS hpl
    go_enter Tryz.func12, Tryz.ntmps12
    go_wp2_with fail
    go_at_call 21
    refine (CG.out _ HB0.out).mono ?_
    rintro e w1 ⟨rfl, hb1⟩
    have HB1 := hid (vonto HB0.out hb1)
    clear hb1 CG
    go_wp2_with fail
    go_ret
    exact ⟨rfl, HB1.out⟩
  | true =>
    rw [Bool.true_and]
    have CS2 := hid (CS.out (hpl rfl))
    clear CS hpl
    by_cases k6 : T.kd = 6
    · rw [decide_eq_true k6, Bool.true_and]
      rw [k6] at CG CS2 HB0 f0 f1 f2 f3 f4 ⊢
      go_enter Tryz.func12, Tryz.ntmps12
      go_wp2_with fail
      go_at_call 21
      refine (CG.out _ HB0.out).mono ?_
      rintro e w1 ⟨rfl, hb1⟩
      have HB1 := hid (vonto HB0.out hb1)
      replace f0 := keepCell hb1 f0
      replace f1 := keepCell hb1 f1
      replace f2 := keepCell hb1 f2
      replace f3 := keepCell hb1 f3
      replace f4 := keepCell hb1 f4
      have C2 := hid (CS2.out w1 HB1.out)
      clear hb1 CG CS2
      go_wp2_with fail
      go_at_call 22
      refine C2.out.mono ?_
      rintro e w2 ⟨rfl, hb2⟩
      have HB2 := hid (vonto HB1.out hb2)
      clear hb2 C2
      go_wp2_with fail
      go_ret
      exact ⟨rfl, HB2.out⟩
    · rw [decide_eq_false k6, Bool.false_and]
      obtain ⟨k6a, k6b⟩ := ikey T.kd 6 k6
      clear CS2
      go_enter Tryz.func12, Tryz.ntmps12
      go_wp2_with fail
      go_at_call 21
      refine (CG.out _ HB0.out).mono ?_
      rintro e w1 ⟨rfl, hb1⟩
      have HB1 := hid (vonto HB0.out hb1)
      replace f0 := keepCell hb1 f0
      clear hb1 CG
      go_wp2_with fail
      go_ret
      exact ⟨rfl, HB1.out⟩
end Go.Proofs.YtiaepihdfbahaaaGreatDoor
