import Derived.Test.YtjcejjejlekelaaGreatDoorBaseDec
import Derived.Deep.DeepCutAuto
import Derived.Deep.CutRange
import Derived.Test.YtjcejjejlekelaaGreatDoorShelf
import Derived.Laws.IdiomStrings
import Derived.BigQuiet
import Derived.Test.YtjcejjejlekelaaGreatDoorMathDecAll
import Derived.Deep.RegionWith
import Derived.StillTailTactics
import Derived.Test.YtjcejjejlekelaaGreatDoorOrders
import Derived.Lib.AtoiErrMem
/- Package dec, walked: a text's digits cut off, what stands behind e. -/
/- Package dec, walked: the one number that stands for a text. -/
/- Package dec, walked: read. -/
/- Package dec, walked: Good, Whole; the sizes of two numbers compared. -/
/- Package dec, walked: Cmp. -/
/- Package dec, walked: Int alone; the library's two errors that it reads. -/
namespace Go.Proofs.YtjcejjejlekelaaGreatDoor
open Go.RowKit

theorem trimp_any (s : ByteArray) (c : UInt8) (w : World) :
    Calls Tryz.prog 62 #[.string s, .string ⟨#[c]⟩] w fun e w' => e = .returned (.string (mkS (Lib.trimPrefix s.data.toList [c]))) ∧ w' = w := Tryz.strings_TrimPrefix s ⟨#[c]⟩ w
theorem ret_ss {a b c d : ByteArray} (h : a = b) (g : c = d) : Ending.returned (.tuple #[.string a, .string c]) = .returned (.tuple #[.string b, .string d]) := by rw [h, g]
theorem cut_pair (s : ByteArray) : s.extract 0 (runN s.data.toList) = mkS (s.data.toList.takeWhile isD) ∧ s.extract (runN s.data.toList) s.size = mkS (s.data.toList.dropWhile isD) :=
  ⟨mkS_of _ _ (by rw [cut_list, runN_take]), mkS_of _ _ (by rw [drop_list, runN_drop])⟩
/-- what a text's bytes lie as, once they are converted -/
theorem brow_at (s : ByteArray) (k : Nat) (w : World) (c : Nat) (t : TypeId) (m : Nat × Nat) (hk : k < s.size) : (w.alloc (.cells (bytesRow s c) t m)).cell? ⟨w.heap.size, k, none⟩ = some (.int .u8 (s[k].toNat : Int)) := by
  rw [World.cell?_alloc_mark w _ t m k]
  exact bytesRow_at s c k hk
end Go.Proofs.YtjcejjejlekelaaGreatDoor
namespace Go.Proofs.YtjcejjejlekelaaGreatDoor
open Go.RowKit

theorem below_drewN {B : Nat} {a w : World} (h : Below B a w) (n : Nat) : Below B a (w.drewN n) := h.trans ⟨rfl, rfl, rfl, Nat.le_refl _, fun _ _ => rfl⟩
theorem agg_eq {i j n m : Int} {s t : ByteArray} (h : i = j) (g : s = t) (k : n = m) : Ending.returned (.agg #[.int .i64 i, .string s, .int .i64 n]) = .returned (.agg #[.int .i64 j, .string t, .int .i64 m]) := by rw [h, g, k]
/-- what plain answers -/
def plV (b : Bool) (a f : List UInt8) (p : Int) : Value :=
  if lst (a ++ f) = [] then noV else .agg #[.int .i64 (if b then -1 else 1), .string (mkS (rst (lst (a ++ f)))), .int .i64 (p + a.length - 1 - lz (a ++ f))]
end Go.Proofs.YtjcejjejlekelaaGreatDoor
namespace Go.Proofs.YtjcejjejlekelaaGreatDoor
open Go.RowKit

theorem alloc_bel {w a : World} (h : Below w.heap.size w a) (o : Obj) : Below w.heap.size w (a.alloc o) := h.alloc h.size _
theorem set_bel {w a : World} {ad : Addr} {v : Value} (h : Below w.heap.size w a) (hb : w.heap.size ≤ ad.block) : Below w.heap.size w (a.setCell ad v) := h.setCell hb v
/-- what read answers -/
def rdaD (l : List UInt8) : Value := .agg #[.int .i64 (rdS l), .string (mkS (rdD l)), .int .i64 (rdT l)]
def rdV (l : List UInt8) : Value := .tuple #[rdaD l, .bool (numB l)]
theorem rdV_no (l : List UInt8) (h : numB l = false) : rdV l = .tuple #[noV, .bool false] := by
  unfold rdV rdaD rdS rdD rdT; rw [h]; rfl
theorem rdA_yes (l : List UInt8) (h : numB l = true) : rdaD l = plV (pNeg l) (pW l) (pF l) (rpV (pS l)) := by
  have hr : rpV (pS l) = pwV (pP l) := by
    have h1 := num_split l; rw [h] at h1
    have h2 : rpB (pS l) = true := by
      cases hb : rpB (pS l) with
      | true => rfl
      | false => rw [hb, Bool.and_false] at h1; cases h1
    unfold rpV; rw [if_pos h2]; rfl
  unfold rdaD rdS rdD rdT; rw [if_pos h, if_pos h, if_pos h]
  unfold plV
  by_cases e : lst (pW l ++ pF l) = []
  · obtain ⟨h1, h2, h3⟩ := sc_zero l e
    rw [if_pos e, h3, h1, h2]; rfl
  · obtain ⟨h1, h2, h3⟩ := sc_some l e
    rw [if_neg e, h3, h1, h2, hr]
    rw [show ((pW l).length : Int) - 1 + pwV (pP l) - lz (pW l ++ pF l) = pwV (pP l) + (pW l).length - 1 - lz (pW l ++ pF l) by omega]
theorem num_no (l : List UInt8) (h : ¬ l.length ≤ 400 ∨ pWok l = false ∨ pFok l = false ∨ rpB (pS l) = false) : rdV l = .tuple #[noV, .bool false] := by
  refine rdV_no l ?_
  rw [num_split]
  rcases h with h | h | h | h
  · rw [decide_eq_false h]; rfl
  · rw [h]; simp
  · rw [h]; simp
  · rw [h]; simp
end Go.Proofs.YtjcejjejlekelaaGreatDoor
namespace Go.Proofs.YtjcejjejlekelaaGreatDoor
open Go.RowKit

/-- cmp.Compare of two texts -/
def cmpS (d e : List UInt8) : Int := if ltB d e then -1 else if ltB e d then 1 else 0
def cmpZ (n m : Int) : Int := if n < m then -1 else if m < n then 1 else 0
def orI (x y : Int) : Int := if x = 0 then y else x
theorem region_tail {P : Program} {id : Nat} {Q : Exit → Act → World → Prop} {a : Act} {w : World} {l : List Oper} (n : Nat) (hm : P.follows .mixedOrders = true) (hB : Region.lexTailB .any l.toArray n = true)
    (h : wpStill P l.toArray (w.drewN 1) (fun a' => wpList P l.toArray Q (l.drop n) a' (w.drewN 1)) (l.take n) a) : (Code.region id l.toArray true).wp P Q a w := wp_region_still_tail n hm hB h
theorem cmpz_any (x y : Int) (w : World) :
    Calls Tryz.prog 75 #[.int .i64 x, .int .i64 y] w fun e w' => e = .returned (.int .i64 (cmpZ x y)) ∧ w' = w := Tryz.cmp_Compare_int x y w
theorem num_wh (l : List UInt8) (h : numB l = true) : (scD l = [] → rdS l = 0 ∧ wholeB l = true) ∧ (¬ scD l = [] → ¬ rdS l = 0 ∧ wholeB l = decide (((rdD l).length : Int) - 1 ≤ rdT l)) := by
  unfold rdS rdD rdT wholeB; rw [h, if_pos rfl, if_pos rfl, if_pos rfl, Bool.true_and]
  constructor
  · intro e; exact ⟨by unfold sgI; rw [if_pos e], by rw [decide_eq_true e]; rfl⟩
  · intro e; refine ⟨?_, by rw [decide_eq_false e, Bool.false_or]⟩
    unfold sgI; rw [if_neg e]; split <;> decide
end Go.Proofs.YtjcejjejlekelaaGreatDoor
namespace Go.Proofs.YtjcejjejlekelaaGreatDoor
open Go.RowKit

theorem or_eq (d e : List UInt8) (n m : Int) (h : d = e ∧ n = m) : orI (cmpZ n m) (cmpS d e) = 0 := by
  obtain ⟨rfl, rfl⟩ := h
  unfold cmpS cmpZ orI; rw [ltB_irr]; simp
theorem or_ne (d e : List UInt8) (n m : Int) (h : ¬ (d = e ∧ n = m)) : orI (cmpZ n m) (cmpS d e) = if lessB d n e m then -1 else 1 := by
  unfold lessB
  by_cases h1 : n < m
  · have : cmpZ n m = -1 := by unfold cmpZ; rw [if_pos h1]
    rw [this, decide_eq_true h1]; rfl
  · by_cases h2 : m < n
    · have : cmpZ n m = 1 := by unfold cmpZ; rw [if_neg h1, if_pos h2]
      rw [this, decide_eq_false h1, decide_eq_false (by omega)]; rfl
    · have hnm : n = m := by omega
      have : cmpZ n m = 0 := by unfold cmpZ; rw [if_neg h1, if_neg h2]
      rw [this, decide_eq_false h1, decide_eq_true hnm, Bool.false_or, Bool.true_and]
      unfold orI cmpS; rw [if_pos rfl]
      rcases ltB_tri d e with ⟨g1, g2, g3⟩ | g | ⟨g1, g2, g3⟩
      · rw [g1]; rfl
      · exact absurd ⟨g, hnm⟩ h
      · rw [g1, g2]; rfl
theorem cmp_land (k l : List UInt8) (hk : numB k = true) (hl : numB l = true) :
    (¬ rdS k = rdS l → cmpI k l = cmpZ (rdS k) (rdS l)) ∧ (rdS k = rdS l → cmpI k l = rdS k * orI (cmpZ (rdT k) (rdT l)) (cmpS (rdD k) (rdD l))) := by
  rw [cmp_tri k l hk hl]
  unfold rdS rdT rdD; rw [if_pos hk, if_pos hk, if_pos hk, if_pos hl, if_pos hl, if_pos hl]
  have T := tri_of k; have U := tri_of l
  generalize scN k = p at T ⊢
  generalize scD k = d at T ⊢
  generalize scT k = n at T ⊢
  generalize scN l = q at U ⊢
  generalize scD l = e at U ⊢
  generalize scT l = m at U ⊢
  constructor
  · intro hs
    have h0 : ¬ (d = e ∧ p = q ∧ n = m) := fun h => hs (by rw [h.1, h.2.1])
    unfold tcmp; rw [if_neg h0, if_neg hs]
    unfold cmpZ
    by_cases h1 : sgI p d < sgI q e
    · rw [if_pos h1, if_pos h1]
    · rw [if_neg h1, if_neg h1, if_pos (by omega)]
  · intro hs
    rcases sg_cases p d with ⟨a1, a2⟩ | ⟨a1, a2, a3⟩ | ⟨a1, a2, a3⟩
    · rcases sg_cases q e with ⟨b1, b2⟩ | ⟨b1, b2, b3⟩ | ⟨b1, b2, b3⟩
      · rw [a2, Int.zero_mul]; unfold tcmp
        rw [if_pos ⟨by rw [a1, b1], by rw [(T a1).1, (U b1).1], by rw [(T a1).2, (U b1).2]⟩]
      · omega
      · omega
    · rcases sg_cases q e with ⟨b1, b2⟩ | ⟨b1, b2, b3⟩ | ⟨b1, b2, b3⟩
      · omega
      · by_cases h : d = e ∧ n = m
        · rw [or_eq d e n m h]; unfold tcmp; rw [if_pos ⟨h.1, by rw [a2, b2], h.2⟩]; omega
        · rw [or_ne d e n m h, a3]; unfold tcmp; rw [if_neg (fun g => h ⟨g.1, g.2.2⟩), if_pos hs, a3]
          cases lessB d n e m <;> rfl
      · omega
    · rcases sg_cases q e with ⟨b1, b2⟩ | ⟨b1, b2, b3⟩ | ⟨b1, b2, b3⟩
      · omega
      · omega
      · by_cases h : d = e ∧ n = m
        · rw [or_eq d e n m h]; unfold tcmp; rw [if_pos ⟨h.1, by rw [a2, b2], h.2⟩]; omega
        · rw [or_ne d e n m h, a3]; unfold tcmp; rw [if_neg (fun g => h ⟨g.1, g.2.2⟩), if_pos hs, a3]
          cases lessB d n e m <;> rfl
theorem mul_small (i o : Int) (h1 : -1 ≤ i) (h2 : i ≤ 1) (h3 : -1 ≤ o ∧ o ≤ 1) : wrap64 (i * o) = i * o := by
  have : -1 ≤ i * o ∧ i * o ≤ 1 := by
    rcases (by omega : i = -1 ∨ i = 0 ∨ i = 1) with rfl | rfl | rfl <;> omega
  unfold wrap64; omega
theorem onto {w a b : World} (h : Below w.heap.size w a) (k : Below a.heap.size a b) : Below w.heap.size w b := h.trans (k.mono h.size)
/-- a number that lies in memory -/
def NumAt (w : World) (b : Nat) (l : List UInt8) : Prop := w.cell? ⟨b, 0, none⟩ = some (.int .i64 (rdS l)) ∧ w.cell? ⟨b, 1, none⟩ = some (.string (mkS (rdD l))) ∧ w.cell? ⟨b, 2, none⟩ = some (.int .i64 (rdT l))
theorem numat_new (w : World) (l : List UInt8) (t : TypeId) : NumAt (w.alloc (Obj.cells #[.int .i64 (rdS l), .string (mkS (rdD l)), .int .i64 (rdT l)] t)) w.heap.size l := by
  have h := fun j => World.cell?_alloc_mark w #[.int .i64 (rdS l), .string (mkS (rdD l)), .int .i64 (rdT l)] t (0, 0) j
  exact ⟨h 0, h 1, h 2⟩
theorem numat_on {w u : World} {b : Nat} {l : List UInt8} (h : NumAt w b l) (k : Below w.heap.size w u) : NumAt u b l := by
  have g := fun (j : Nat) (v : Value) (e : w.cell? ⟨b, j, none⟩ = some v) => (k.cell (p := ⟨b, j, none⟩) (World.block_lt_of_cell? w _ e)).trans e
  exact ⟨g 0 _ h.1, g 1 _ h.2.1, g 2 _ h.2.2⟩
theorem or_bd (d e : List UInt8) (n m : Int) : -1 ≤ orI (cmpZ n m) (cmpS d e) ∧ orI (cmpZ n m) (cmpS d e) ≤ 1 := by
  by_cases h : d = e ∧ n = m
  · rw [or_eq d e n m h]; omega
  · rw [or_ne d e n m h]; split <;> omega
end Go.Proofs.YtjcejjejlekelaaGreatDoor
namespace Go.Proofs.YtjcejjejlekelaaGreatDoor
open Go.RowKit

/-- the library's variables that are read lie as its text lays them -/
structure Glob (w : World) : Prop where
  syn : ∃ tp p, w.var? Tryz.prog "strconv.ErrSyntax" = some #[.iface tp p]
  ran : ∃ tp p, w.var? Tryz.prog "strconv.ErrRange" = some #[.iface tp p]
theorem var_on {w w' : World} {n : String} {cs : Array Value} (hb : Below w.heap.size w w') (h : w.var? Tryz.prog n = some cs) : w'.var? Tryz.prog n = some cs := by
  unfold World.var? at *
  cases hg : Tryz.prog.globalNamed n with
  | none => simp [hg] at h
  | some g =>
    simp only [hg, Option.bind_some] at h ⊢
    have hlt : g < w.heap.size := by
      rcases Nat.lt_or_ge g w.heap.size with h' | h'
      · exact h'
      · rw [Array.getElem?_eq_none h'] at h; simp at h
    rw [hb.block g hlt]
    exact h
theorem Glob.on {w w' : World} (h : Glob w) (hb : Below w.heap.size w w') : Glob w' :=
  ⟨let ⟨a, b, e⟩ := h.syn; ⟨a, b, var_on hb e⟩, let ⟨a, b, e⟩ := h.ran; ⟨a, b, var_on hb e⟩⟩
theorem ret_str {a b : ByteArray} (h : a = b) : Ending.returned (.string a) = .returned (.string b) := by rw [h]
theorem str_eq (s : ByteArray) (l : List UInt8) (hl : s.data.toList = l) (k : List UInt8) : (s.toList == k) = decide (l = k) := by
  rw [Lib.toList_data, hl]
  by_cases h : l = k
  · rw [h]; simp
  · rw [decide_eq_false h]; exact beq_eq_false_iff_ne.2 h
end Go.Proofs.YtjcejjejlekelaaGreatDoor
