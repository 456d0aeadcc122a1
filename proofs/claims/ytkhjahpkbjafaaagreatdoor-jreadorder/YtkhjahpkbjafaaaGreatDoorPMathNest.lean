/- Plain mathematics: lists and maps in one another, and a row of noughts, as texts that are read. -/
import Derived.Test.YtkhjahpkbjafaaaGreatDoorPMathRds
namespace Go.Proofs.YtkhjahpkbjafaaaGreatDoor
open Go.RowKit

/-- the words of tokens, without the end -/
def wdsN : Nat → List Tk → List Wd
  | _, [] => []
  | i, t :: r => t.wd i ++ wdsN (i + t.tx.length) r
theorem wdsT_N : ∀ (ts : List Tk) (i : Nat), wdsT i ts = wdsN i ts ++ [⟨0, [], i + (txs ts).length⟩]
  | [], i => by simp [wdsT, wdsN, txs]
  | t :: r, i => by rw [wdsT, wdsN, wdsT_N r, txs_cons, List.length_append, List.append_assoc, Nat.add_assoc]
theorem wdsN_app : ∀ (a b : List Tk) (i : Nat), wdsN i (a ++ b) = wdsN i a ++ wdsN (i + (txs a).length) b
  | [], b, i => by simp [wdsN, txs]
  | t :: r, b, i => by rw [List.cons_append, wdsN, wdsN, wdsN_app r b, txs_cons, List.length_append, List.append_assoc, Nat.add_assoc]
theorem cut_tokN {ts : List Tk} (h : okT ts) (hl : (txs ts).length ≤ 65536) (hv : Vl (txs ts)) : cutA (txs ts) = (wdsN 0 ts ++ [⟨0, [], (txs ts).length⟩], 0, 0) := by
  rw [cut_tok h hl hv, wdsT_N, Nat.zero_add]
def opT : Bool → List Tk
  | true => [.sg 123, .st [107], .sg 58]
  | false => [.sg 91]
def clT : Bool → List Tk
  | true => [.sg 125]
  | false => [.sg 93]
/-- so many lists, or maps, around a one -/
def nst (kind : Bool) : Nat → List Tk
  | 0 => [.nu [49]]
  | n + 1 => opT kind ++ (nst kind n ++ clT kind)
def nestT (kind : Bool) : Nat → VT
  | 0 => leafT 2 1 ⟨#[]⟩
  | n + 1 => if kind then mapT [(⟨#[107]⟩, nestT kind n)] else listT [nestT kind n]
theorem nest_hg (kind : Bool) : ∀ n : Nat, hgT (nestT kind n) = n + 1
  | 0 => by simp [nestT, leafT, hgT, hgL]
  | n + 1 => by
    have ih := nest_hg kind n
    cases kind <;> simp [nestT, mapT, listT, hgT, hgL, ih] <;> omega
theorem nest_sz (kind : Bool) : ∀ n : Nat, szT (nestT kind n) = n + 1
  | 0 => by simp [nestT, leafT, szT, szL]
  | n + 1 => by
    have ih := nest_sz kind n
    cases kind <;> simp [nestT, mapT, listT, szT, szL, ih] <;> omega
theorem nst_rds (kind : Bool) : ∀ (n d i : Nat), d + n ≤ 32 → Rds d (wdsN i (nst kind n)) (nestT kind n) (n + 1)
  | 0, d, i, h => by
    have := rds_one (x := ⟨3, [49], i⟩) (d := d) (beg_kd (by simp) (by simp)) (by simp) (by simp) (by omega)
    have e : sgT ⟨3, [49], i⟩ = leafT 2 1 ⟨#[]⟩ := by
      unfold sgT; rw [if_neg (by simp), if_pos rfl]; rfl
    rw [e] at this
    exact this
  | n + 1, d, i, h => by
    cases kind with
    | false =>
      have ih := nst_rds false n (d + 1) (i + 1) (by omega)
      have := rds_list1 (o := ⟨1, [91], i⟩) (c := ⟨1, [93], i + 1 + (txs (nst false n)).length⟩) (by omega) ih rfl rfl
      have e : wdsN i (nst false (n + 1)) = ⟨1, [91], i⟩ :: (wdsN (i + 1) (nst false n) ++ [⟨1, [93], i + 1 + (txs (nst false n)).length⟩]) := by
        rw [nst, wdsN_app, wdsN_app]; rfl
      rw [e]
      exact this
    | true =>
      have ih := nst_rds true n (d + 1) (i + 5) (by omega)
      have := rds_map (o := ⟨1, [123], i⟩) (c := ⟨1, [125], i + 5 + (txs (nst true n)).length⟩) (by omega) (RdM.one (xk := ⟨2, [107], i + 1⟩) (xc := ⟨1, [58], i + 4⟩) rfl rfl ih) (by simp) rfl rfl
      have e : wdsN i (nst true (n + 1)) = ⟨1, [123], i⟩ :: (⟨2, [107], i + 1⟩ :: ⟨1, [58], i + 4⟩ :: wdsN (i + 5) (nst true n) ++ [⟨1, [125], i + 5 + (txs (nst true n)).length⟩]) := by
        rw [nst, wdsN_app, wdsN_app]; rfl
      rw [e]
      exact this
theorem Bds.app {d : Nat} {ws : List Wd} (h : Bds d ws) (q : List Wd) : Bds d (ws ++ q) := by
  obtain ⟨⟨x, r, rfl, hx⟩, hr⟩ := h
  refine ⟨⟨x, r ++ q, rfl, hx⟩, fun n f s hn hf => ?_⟩
  rw [List.length_append] at hn hf
  rw [List.append_assoc]
  exact hr n f (q ++ s) (by omega) (by omega)
theorem nst_bds (kind : Bool) : ∀ (n d i : Nat), 33 ≤ d + n → d ≤ 33 → Bds d (wdsN i (nst kind n))
  | 0, d, i, h, h' => by
    obtain rfl : d = 33 := by omega
    exact bds_33 (beg_kd (by simp) (by simp))
  | n + 1, d, i, h, h' => by
    by_cases hd : d = 33
    · subst hd
      cases kind with
      | false => exact bds_33 (beg_sg (c := 91) rfl (Or.inr rfl))
      | true => exact bds_33 (beg_sg (c := 123) rfl (Or.inl rfl))
    · cases kind with
      | false =>
        have ih := nst_bds false n (d + 1) (i + 1) (by omega) (by omega)
        have := bds_list (o := ⟨1, [91], i⟩) (by omega) (ih.app [⟨1, [93], i + 1 + (txs (nst false n)).length⟩]) rfl
        have e : wdsN i (nst false (n + 1)) = ⟨1, [91], i⟩ :: (wdsN (i + 1) (nst false n) ++ [⟨1, [93], i + 1 + (txs (nst false n)).length⟩]) := by
          rw [nst, wdsN_app, wdsN_app]; rfl
        rw [e]
        exact this
      | true =>
        have ih := nst_bds true n (d + 1) (i + 5) (by omega) (by omega)
        have := bds_map (o := ⟨1, [123], i⟩) (xk := ⟨2, [107], i + 1⟩) (xc := ⟨1, [58], i + 4⟩) (by omega) (ih.app [⟨1, [125], i + 5 + (txs (nst true n)).length⟩]) rfl rfl rfl
        have e : wdsN i (nst true (n + 1)) = ⟨1, [123], i⟩ :: ⟨2, [107], i + 1⟩ :: ⟨1, [58], i + 4⟩ :: (wdsN (i + 5) (nst true n) ++ [⟨1, [125], i + 5 + (txs (nst true n)).length⟩]) := by
          rw [nst, wdsN_app, wdsN_app]; rfl
        rw [e]
        exact this
theorem num_49 : numB [49] = true := by decide
theorem num_48 : numB [48] = true := by decide
theorem nst_ok (kind : Bool) : ∀ (n : Nat) (r : List Tk), okT r → (∀ x, (txs r).head? = some x → numC x = false) → okT (nst kind n ++ r)
  | 0, r, h, hh => ⟨num_49, hh, h⟩
  | n + 1, r, h, hh => by
    cases kind with
    | false =>
      have h1 : okT ([Tk.sg 93] ++ r) := ⟨by decide, h⟩
      have := nst_ok false n ([Tk.sg 93] ++ r) h1 (fun x hx => by
        rw [List.singleton_append, txs_cons] at hx
        simp [Tk.tx] at hx; subst hx; decide)
      have e : nst false (n + 1) ++ r = Tk.sg 91 :: (nst false n ++ ([Tk.sg 93] ++ r)) := by simp [nst, opT, clT]
      rw [e]
      exact ⟨by decide, this⟩
    | true =>
      have h1 : okT ([Tk.sg 125] ++ r) := ⟨by decide, h⟩
      have := nst_ok true n ([Tk.sg 125] ++ r) h1 (fun x hx => by
        rw [List.singleton_append, txs_cons] at hx
        simp [Tk.tx] at hx; subst hx; decide)
      have e : nst true (n + 1) ++ r = Tk.sg 123 :: Tk.st [107] :: Tk.sg 58 :: (nst true n ++ ([Tk.sg 125] ++ r)) := by simp [nst, opT, clT]
      rw [e]
      exact ⟨by decide, vl_ascii (by decide), by decide, by decide, this⟩
def opB (kind : Bool) : List UInt8 := if kind then [123, 34, 107, 34, 58] else [91]
def clB (kind : Bool) : List UInt8 := if kind then [125] else [93]
/-- a text so many times -/
def rep (l : List UInt8) : Nat → List UInt8
  | 0 => []
  | n + 1 => rep l n ++ l
theorem rep_len (l : List UInt8) : ∀ n, (rep l n).length = n * l.length
  | 0 => by simp [rep]
  | n + 1 => by rw [rep, List.length_append, rep_len l n, Nat.succ_mul]
theorem rep_front (l : List UInt8) : ∀ n, rep l (n + 1) = l ++ rep l n
  | 0 => by simp [rep]
  | n + 1 => by
    have ih := rep_front l n
    rw [show rep l (n + 1 + 1) = rep l (n + 1) ++ l from rfl]
    conv => lhs; rw [ih]
    rw [List.append_assoc]; rfl
theorem rep_mem {l : List UInt8} {b : UInt8} : ∀ {n : Nat}, b ∈ rep l n → b ∈ l
  | 0, h => by simp [rep] at h
  | n + 1, h => by
    rw [rep] at h
    rcases List.mem_append.1 h with h | h
    · exact rep_mem h
    · exact h
theorem txs_op (kind : Bool) : txs (opT kind) = opB kind := by cases kind <;> rfl
theorem txs_cl (kind : Bool) : txs (clT kind) = clB kind := by cases kind <;> rfl
theorem nst_tx (kind : Bool) : ∀ n : Nat, txs (nst kind n) = rep (opB kind) n ++ ([49] ++ rep (clB kind) n)
  | 0 => rfl
  | n + 1 => by rw [nst, txs_app, txs_app, nst_tx kind n, txs_op, txs_cl, rep_front, rep]; simp
theorem op_lt (kind : Bool) : ∀ b ∈ opB kind, b.toNat < 128 := by cases kind <;> decide
theorem cl_lt (kind : Bool) : ∀ b ∈ clB kind, b.toNat < 128 := by cases kind <;> decide
theorem nst_lt (kind : Bool) (n : Nat) : ∀ b ∈ rep (opB kind) n ++ ([49] ++ rep (clB kind) n), b.toNat < 128 := by
  intro b hb
  rcases List.mem_append.1 hb with h | h
  · exact op_lt kind b (rep_mem h)
  · rcases List.mem_append.1 h with h | h
    · rw [List.mem_singleton.1 h]; decide
    · exact cl_lt kind b (rep_mem h)
theorem nst_len (kind : Bool) (n : Nat) : (rep (opB kind) n ++ ([49] ++ rep (clB kind) n)).length ≤ 6 * n + 1 := by
  rw [List.length_append, List.length_append, rep_len, rep_len]
  cases kind <;> simp [opB, clB] <;> omega
theorem nst_cut (kind : Bool) (n : Nat) (hn : n ≤ 40) : cutA (rep (opB kind) n ++ ([49] ++ rep (clB kind) n)) = (wdsN 0 (nst kind n) ++ [⟨0, [], (txs (nst kind n)).length⟩], 0, 0) := by
  have h1 := nst_ok kind n [] trivial (fun x hx => by simp [txs] at hx)
  rw [List.append_nil] at h1
  have h2 := nst_len kind n
  rw [← nst_tx] at h2 ⊢
  exact cut_tokN h1 (by omega) (by rw [nst_tx]; exact vl_ascii (nst_lt kind n))
theorem wdsN_len : ∀ (ts : List Tk) (i : Nat), (wdsN i ts).length ≤ ts.length
  | [], i => by simp [wdsN]
  | t :: r, i => by
    rw [wdsN, List.length_append, List.length_cons]
    have := wdsN_len r (i + t.tx.length)
    have h : (t.wd i).length ≤ 1 := by cases t <;> simp [Tk.wd]
    omega
theorem nst_n (kind : Bool) : ∀ n, (nst kind n).length ≤ 4 * n + 1
  | 0 => by simp [nst]
  | n + 1 => by
    have := nst_n kind n
    cases kind <;> simp [nst, opT, clT] at * <;> omega
/-- not too deep: it is read -/
theorem nest_reads (kind : Bool) (n : Nat) (hn : n < 32) : ∃ q, jrA (rep (opB kind) n ++ ([49] ++ rep (clB kind) n)) = .ok (nestT kind n) (n + 1) q :=
  ⟨_, jrA_rds (nst_cut kind n (by omega)) (nst_rds kind n 1 0 (by omega)) rfl (by omega)⟩
theorem nest_fails (kind : Bool) (n : Nat) (hn : 32 ≤ n) (h40 : n ≤ 40) : ∃ a, jrA (rep (opB kind) n ++ ([49] ++ rep (clB kind) n)) = .bad 2 a := by
  have h1 := wdsN_len (nst kind n) 0
  have h2 := nst_n kind n
  obtain ⟨a, ha⟩ := (nst_bds kind n 1 0 (by omega) (by omega)).2 0 (2 * (wdsN 0 (nst kind n) ++ [(⟨0, [], (txs (nst kind n)).length⟩ : Wd)]).length + 2) [⟨0, [], (txs (nst kind n)).length⟩] (by omega) (by rw [List.length_append]; omega)
  exact ⟨a, jrA_bad (nst_cut kind n h40) ha⟩
/-- a row of noughts -/
def rowT : Nat → List Tk
  | 0 => [.nu [48]]
  | m + 1 => .nu [48] :: .sg 44 :: rowT m
theorem row_rdz : ∀ (m i : Nat), RdZ (wdsN i (rowT m)) (m + 1)
  | 0, _ => RdZ.one rfl
  | m + 1, i => RdZ.more (x := ⟨3, [48], i⟩) (xm := ⟨1, [44], i + 1⟩) rfl rfl (row_rdz m (i + 1 + 1))
theorem row_tx : ∀ m : Nat, txs (rowT m) = rep [48, 44] m ++ [48]
  | 0 => rfl
  | m + 1 => by rw [rowT, txs_cons, txs_cons, row_tx m, rep_front]; rfl
theorem row_ok : ∀ m : Nat, okT (rowT m ++ [.sg 93])
  | 0 => ⟨num_48, fun x hx => by simp [txs, Tk.tx] at hx; subst hx; decide, by decide, trivial⟩
  | m + 1 => ⟨num_48, fun x hx => by change some (44 : UInt8) = some x at hx; injection hx with hx; subst hx; decide, by decide, row_ok m⟩
theorem row_cut (m : Nat) (hm : m ≤ 4200) : cutA ([91] ++ (rep [48, 44] m ++ [48, 93])) = (⟨1, [91], 0⟩ :: (wdsN 1 (rowT m) ++ [⟨1, [93], 1 + (txs (rowT m)).length⟩]) ++ [⟨0, [], (txs ([Tk.sg 91] ++ (rowT m ++ [.sg 93]))).length⟩], 0, 0) := by
  have h1 : okT ([Tk.sg 91] ++ (rowT m ++ [.sg 93])) := ⟨by decide, row_ok m⟩
  have e : txs ([Tk.sg 91] ++ (rowT m ++ [.sg 93])) = [91] ++ (rep [48, 44] m ++ [48, 93]) := by
    rw [txs_app, txs_app, row_tx, List.append_assoc]; rfl
  have hl : ([91] ++ (rep [48, 44] m ++ [48, 93]) : List UInt8).length ≤ 65536 := by
    rw [List.length_append, List.length_append, rep_len]
    simp; omega
  have hv : Vl ([91] ++ (rep [48, 44] m ++ [48, 93])) := by
    refine vl_ascii (fun b hb => ?_)
    rcases List.mem_append.1 hb with h | h
    · rw [List.mem_singleton.1 h]; decide
    · rcases List.mem_append.1 h with h | h
      · have h2 : ∀ b ∈ ([48, 44] : List UInt8), b.toNat < 128 := by decide
        exact h2 b (rep_mem h)
      · have h2 : ∀ b ∈ ([48, 93] : List UInt8), b.toNat < 128 := by decide
        exact h2 b h
  have := cut_tokN h1 (by rw [e]; exact hl) (by rw [e]; exact hv)
  rw [← e, this, wdsN_app, wdsN_app]
  rfl
theorem row_reads (m : Nat) (hm : m + 2 ≤ 4096) : ∃ q, jrA ([91] ++ (rep [48, 44] m ++ [48, 93])) = .ok (listT (List.replicate (m + 1) (leafT 2 0 ⟨#[]⟩))) (m + 2) q := by
  refine ⟨_, jrA_rds (row_cut m (by omega)) ?_ rfl hm⟩
  have hb : begB ⟨1, [91], 0⟩ = true := by decide
  refine ⟨⟨_, _, rfl, hb⟩, fun n f r hn hf => ?_⟩
  obtain ⟨x, q, hq, hx, -⟩ := (row_rdz m 1).head
  simp only [List.length_cons, List.length_append, List.length_nil] at hf
  obtain ⟨g, rfl⟩ : ∃ g, f = g + 1 := ⟨f - 1, by omega⟩
  have hne : isM 93 (wdsN 1 (rowT m) ++ (⟨1, [93], 1 + (txs (rowT m)).length⟩ :: r)) = false := by rw [hq]; exact isM_no (fun ⟨h3, _⟩ => by omega)
  have e : ∀ (o c : Wd) (W : List Wd), o :: (W ++ [c]) ++ r = o :: (W ++ c :: r) := fun o c W => by simp
  rw [e, jrV_list hb (by omega) rfl rfl, if_neg (by rw [hne]; decide), rdz_ok (row_rdz m 1) [] 1 (n + 1) g _ r (by omega) (by omega) rfl (by omega), List.nil_append, show n + 1 + (m + 1) = n + (m + 2) from by omega]
theorem row_fails (m : Nat) (hm : 4096 < m + 2) (h42 : m ≤ 4200) : ∃ a, jrA ([91] ++ (rep [48, 44] m ++ [48, 93])) = .bad 2 a := by
  have hb : begB ⟨1, [91], 0⟩ = true := by decide
  obtain ⟨x, q, hq, hx, -⟩ := (row_rdz m 1).head
  have hc := row_cut m h42
  obtain ⟨z, hz⟩ : ∃ z : Wd, z = ⟨0, [], (txs ([Tk.sg 91] ++ (rowT m ++ [.sg 93]))).length⟩ := ⟨_, rfl⟩
  obtain ⟨c, hcc⟩ : ∃ c : Wd, c = ⟨1, [93], 1 + (txs (rowT m)).length⟩ := ⟨_, rfl⟩
  rw [← hz, ← hcc] at hc
  have hne : isM 93 (wdsN 1 (rowT m) ++ (c :: [z])) = false := by rw [hq]; exact isM_no (fun ⟨h3, _⟩ => by omega)
  obtain ⟨a, ha⟩ := rdz_bad (row_rdz m 1) [] 1 1 (2 * (⟨1, [91], 0⟩ :: (wdsN 1 (rowT m) ++ [c]) ++ [z]).length + 1) (c :: [z]) (by omega) (by simp only [List.length_cons, List.length_append, List.length_nil]; omega) (by omega) (by omega)
  refine ⟨a, jrA_bad hc ?_⟩
  have e : ∀ (o : Wd) (W : List Wd), o :: (W ++ [c]) ++ [z] = o :: (W ++ c :: [z]) := fun o W => by simp
  rw [e] at ha ⊢
  rw [jrV_list hb (by omega) rfl rfl, if_neg (by rw [hne]; decide)]
  exact ha
end Go.Proofs.YtkhjahpkbjafaaaGreatDoor
