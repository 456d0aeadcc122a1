/- The texts of paths: strings.ReplaceAll by its laws over a list's head; the marks of a key, and back. -/
import Derived.Lib.Replace
import Derived.Test.YteimbjamnfkapaaGreatDoorLShelf
import Derived.Shelf.Strings.BuilderK
import Derived.Shelf.Strconv.Itoa3
import Derived.Shelf.Strconv.AtoiAll
import Derived.Shelf.Strings.Split
import Derived.Shelf.Strings.Replace
import Derived.Shelf.Strings.IndexAnyAll
import Derived.Ground.Names2Prog
import Derived.Test.YteimbjamnfkapaaGreatDoorProg
import Derived.Test.YteimbjamnfkapaaGreatDoorLPathOne
import Derived.Shelf.Strconv.ErrVarAll
import Derived.Lib.AtoiAllCases
import Derived.Lib.ItoaLen
import Derived.Lib.AppendIntMem
/- The library's contracts that the walks take, laid at this translation. -/
namespace Go.Proofs.YteimbjamnfkapaaGreatDoor
open Go
def rA (old new s : List UInt8) : List UInt8 := Lib.replaceK old new (Lib.count s old) s
theorem ra_of {s old new : List UInt8} (h : (old == new) = false) : Lib.replaceAll s old new = rA old new s := by
 unfold Lib.replaceAll Lib.replace Lib.replaceNum rA
 rw [if_neg (by rw [h]; decide),if_pos (Or.inl (by decide))]
theorem ra_nil (old new : List UInt8) (h : old ≠ []) : rA old new [] = [] := by
 have hi : Lib.index [] old = -1 := by
  unfold Lib.index
  rw [if_neg (by rw [List.isEmpty_iff]; exact h)]
 unfold rA
 rw [Lib.count_miss hi]; rfl
theorem index_cons {old : List UInt8} {b : UInt8} {l : List UInt8} (h : old.isPrefixOf (b :: l) = false) : Lib.index (b :: l) old = if Lib.index l old == -1 then -1 else Lib.index l old + 1 := by
 rw [Lib.index,if_neg (by rw [h]; decide)]
theorem ra_cons {old new : List UInt8} {b : UInt8} {l : List UInt8} (h0 : old ≠ []) (h : old.isPrefixOf (b :: l) = false) : rA old new (b :: l) = b :: rA old new l := by
 have hi := index_cons h
 by_cases hm : Lib.index l old = -1
 ·rw [if_pos (beq_iff_eq.2 hm)] at hi
  unfold rA
  rw [Lib.count_miss hi,Lib.count_miss hm]; rfl
 ·rw [if_neg (fun e => hm (beq_iff_eq.1 e))] at hi
  have hge := Lib.index_ge l old
  obtain ⟨i,hli⟩ : ∃ i : Nat,Lib.index l old = i := ⟨(Lib.index l old).toNat,by omega⟩
  have hbi : Lib.index (b :: l) old = ((i + 1 : Nat) : Int) := by rw [hi,hli]; rfl
  unfold rA
  have e : i + 1 + old.length = (i + old.length) + 1 := by omega
  rw [Lib.count_hit h0 hli,Lib.count_hit h0 hbi,e,List.drop_succ_cons,Nat.add_comm 1,Lib.replaceK_hit _ _ _ _ _ hbi,Lib.replaceK_hit _ _ _ _ _ hli,e,List.drop_succ_cons,List.take_succ_cons]
  rfl
theorem ra_hit {old new : List UInt8} (l : List UInt8) (h0 : old ≠ []) : rA old new (old ++ l) = new ++ rA old new l := by
 have hi : Lib.index (old ++ l) old = ((0 : Nat) : Int) := by
  cases old with
  | nil => exact absurd rfl h0
  | cons a t =>
   have hp : (a :: t).isPrefixOf (a :: (t ++ l)) = true := by
    rw [List.isPrefixOf_iff_prefix]; exact ⟨l,rfl⟩
   show Lib.index (a :: (t ++ l)) (a :: t) = _
   rw [Lib.index,if_pos hp]; rfl
 unfold rA
 rw [Lib.count_hit h0 hi,Nat.add_comm 1,Lib.replaceK_hit _ _ _ _ _ hi]
 simp
theorem ra_one (c : UInt8) (new : List UInt8) : ∀ s,rA [c] new s = s.flatMap (fun b => if b = c then new else [b])
 | [] => ra_nil _ _ (by simp)
 | b :: l => by
  by_cases h : b = c
  ·subst h
   rw [List.flatMap_cons,if_pos rfl,← ra_one b new l]
   exact ra_hit l (by simp)
  ·rw [List.flatMap_cons,if_neg h,← ra_one c new l,ra_cons (by simp) (by simp [List.isPrefixOf,Ne.symm h])]
   rfl
def escB (b : UInt8) : List UInt8 := if b = 126 then [126,48] else if b = 47 then [126,49] else [b]
def esc (k : List UInt8) : List UInt8 := k.flatMap escB
theorem esc_of (k : List UInt8) : rA [47] [126,49] (rA [126] [126,48] k) = esc k := by
 rw [ra_one,ra_one]
 unfold esc
 induction k with
 | nil => rfl
 | cons b l ih =>
  rw [List.flatMap_cons,List.flatMap_cons,List.flatMap_append,ih]
  congr 1
  unfold escB
  by_cases h : b = 126
  ·rw [if_pos h,if_pos h]; rfl
  ·rw [if_neg h,if_neg h]; simp
theorem esc_len (k : List UInt8) : (esc k).length ≤ 2 * k.length := by
 unfold esc
 induction k with
 | nil => simp
 | cons b l ih =>
  rw [List.flatMap_cons,List.length_append,List.length_cons]
  have : (escB b).length ≤ 2 := by
   unfold escB
   split
   ·simp
   ·split <;> simp
  omega
def esc0 (k : List UInt8) : List UInt8 := k.flatMap (fun b => if b = 126 then [126,48] else [b])
end Go.Proofs.YteimbjamnfkapaaGreatDoor
namespace Go.Proofs
open Go.Shelf
def Tryz.lays169_ren : Go.Shelf.Ren := ⟨fun | 169 => 160 | n => n,fun | 70 => 210 | 9 => 9 | 0 => 0 | 72 => 212 | 37 => 116 | 127 => 253 | 3 => 3 | 5 => 5 | n => n,fun | n => n⟩
theorem Tryz.lays169 : Go.Proofs.Lays.n169 Tryz.prog Tryz.lays169_ren := {
 mixed := by kernel_rfl
 f169 := Tryz.func160.trans (congrArg some (by kernel_rfl))
 t0 := Tryz.underlying0
 a0 := Tryz.isAgg0
 z0 := Tryz.sizeOf0
 v0 := Tryz.zeroValue0
 t3 := Tryz.underlying3
 a3 := Tryz.isAgg3
 z3 := Tryz.sizeOf3
 v3 := Tryz.zeroValue3
 t9 := Tryz.underlying9
 a9 := Tryz.isAgg9
 z9 := Tryz.sizeOf9
 v9 := Tryz.zeroValue9
 t37 := Tryz.underlying116
 a37 := Tryz.isAgg116
 z37 := Tryz.sizeOf116
 v37 := Tryz.zeroValue116
 t70 := Tryz.underlying210
 a70 := Tryz.isAgg210
 z70 := Tryz.sizeOf210
 v70 := Tryz.zeroValue210
 t72 := Tryz.underlying212
 a72 := Tryz.isAgg212
 z72 := Tryz.sizeOf212
 v72 := Tryz.zeroValue212
 t127 := Tryz.underlying253
 a127 := Tryz.isAgg253
 z127 := Tryz.sizeOf253
 v127 := Tryz.zeroValue253 }
theorem Tryz.Builder_Extra_169 : Builder.Extra Tryz.prog Tryz.lays169_ren := {
 sizeBuilder := by kernel_rfl
 liesBuilder := by kernel_rfl
 t5 := Tryz.underlying5
 a5 := Tryz.isAgg5
 z5 := Tryz.sizeOf5
 v5 := Tryz.zeroValue5
 infoByte := by kernel_rfl
 cellsByte := by kernel_rfl
 sizeByte := by kernel_rfl
 neB5 := by decide }
open Go.RowKit in
theorem Tryz.Builder_String_any_k (B b : Nat) (l : List UInt8) (w : World) (h : Lib.IsBuilderF 212 5 B b (Lib.byteCells l) w) (hBw : B ≤ w.heap.size) :
  Calls Tryz.prog 160 #[.pointer (some ⟨b,0,none⟩)] w fun e w' => e = .returned (.string ⟨l.toArray⟩) ∧ (Lib.IsBuilderF 212 5 B b (Lib.byteCells l) w' ∧ Below B w w' ∧ Lib.OthersKept 5 (some b) w w') := Any.Builder_String_any_k Tryz.lays169 Tryz.Builder_Extra_169 B b l w h hBw
def Tryz.laysM171_ren : Go.Shelf.Ren := ⟨fun | 171 => 159 | 243 => 218 | 246 => 260 | 283 => 291 | 284 => 292 | 285 => 293 | 286 => 294 | 129 => 213 | 317 => 316 | 318 => 317 | 319 => 318 | 320 => 319 | 337 => 323 | 338 => 324 | n => n,fun | 3 => 3 | 9 => 9 | 2 => 2 | 4 => 4 | 171 => 299 | 0 => 0 | 53 => 251 | 37 => 116 | 5 => 5 | 173 => 301 | 212 => 324 | 51 => 249 | 20 => 20 | 213 => 325 | 46 => 205 | 232 => 327 | 233 => 328 | n => n,fun | 17 => 6 | 18 => 7 | 19 => 8 | n => n⟩
theorem Tryz.laysM171 : Go.Proofs.LaysM.n171 Tryz.prog Tryz.laysM171_ren := {
 mixed := by kernel_rfl
 f129 := Tryz.func213.trans (congrArg some (by kernel_rfl))
 f171 := Tryz.func159.trans (congrArg some (by kernel_rfl))
 f243 := Tryz.func218.trans (congrArg some (by kernel_rfl))
 f246 := Tryz.func260.trans (congrArg some (by kernel_rfl))
 f283 := Tryz.func291.trans (congrArg some (by kernel_rfl))
 f284 := Tryz.func292.trans (congrArg some (by kernel_rfl))
 f285 := Tryz.func293.trans (congrArg some (by kernel_rfl))
 f286 := Tryz.func294.trans (congrArg some (by kernel_rfl))
 f317 := Tryz.func316.trans (congrArg some (by kernel_rfl))
 f318 := Tryz.func317.trans (congrArg some (by kernel_rfl))
 f319 := Tryz.func318.trans (congrArg some (by kernel_rfl))
 f320 := Tryz.func319.trans (congrArg some (by kernel_rfl))
 f337 := Tryz.func323.trans (congrArg some (by kernel_rfl))
 f338 := Tryz.func324.trans (congrArg some (by kernel_rfl))
 t0 := Tryz.underlying0
 a0 := Tryz.isAgg0
 z0 := Tryz.sizeOf0
 v0 := Tryz.zeroValue0
 t2 := Tryz.underlying2
 a2 := Tryz.isAgg2
 z2 := Tryz.sizeOf2
 v2 := Tryz.zeroValue2
 t3 := Tryz.underlying3
 a3 := Tryz.isAgg3
 z3 := Tryz.sizeOf3
 v3 := Tryz.zeroValue3
 t4 := Tryz.underlying4
 a4 := Tryz.isAgg4
 z4 := Tryz.sizeOf4
 v4 := Tryz.zeroValue4
 t5 := Tryz.underlying5
 a5 := Tryz.isAgg5
 z5 := Tryz.sizeOf5
 v5 := Tryz.zeroValue5
 t9 := Tryz.underlying9
 a9 := Tryz.isAgg9
 z9 := Tryz.sizeOf9
 v9 := Tryz.zeroValue9
 t20 := Tryz.underlying20
 a20 := Tryz.isAgg20
 z20 := Tryz.sizeOf20
 v20 := Tryz.zeroValue20
 t37 := Tryz.underlying116
 a37 := Tryz.isAgg116
 z37 := Tryz.sizeOf116
 v37 := Tryz.zeroValue116
 t46 := Tryz.underlying205
 a46 := Tryz.isAgg205
 z46 := Tryz.sizeOf205
 v46 := Tryz.zeroValue205
 t51 := Tryz.underlying249
 a51 := Tryz.isAgg249
 z51 := Tryz.sizeOf249
 v51 := Tryz.zeroValue249
 t53 := Tryz.underlying251
 a53 := Tryz.isAgg251
 z53 := Tryz.sizeOf251
 v53 := Tryz.zeroValue251
 t171 := Tryz.underlying299
 a171 := Tryz.isAgg299
 z171 := Tryz.sizeOf299
 v171 := Tryz.zeroValue299
 t173 := Tryz.underlying301
 a173 := Tryz.isAgg301
 z173 := Tryz.sizeOf301
 v173 := Tryz.zeroValue301
 t212 := Tryz.underlying324
 a212 := Tryz.isAgg324
 z212 := Tryz.sizeOf324
 v212 := Tryz.zeroValue324
 t213 := Tryz.underlying325
 a213 := Tryz.isAgg325
 z213 := Tryz.sizeOf325
 t232 := Tryz.underlying327
 a232 := Tryz.isAgg327
 z232 := Tryz.sizeOf327
 v232 := Tryz.zeroValue327
 t233 := Tryz.underlying328
 a233 := Tryz.isAgg328
 z233 := Tryz.sizeOf328
 v233 := Tryz.zeroValue328
 g17 := by kernel_rfl
 g18 := by kernel_rfl
 g19 := by kernel_rfl
 i0 := by kernel_rfl
 i2 := by kernel_rfl
 i3 := by kernel_rfl
 i4 := by kernel_rfl
 i5 := by kernel_rfl
 i9 := by kernel_rfl
 i20 := by kernel_rfl
 i37 := by kernel_rfl
 i46 := by kernel_rfl
 i51 := by kernel_rfl
 i53 := by kernel_rfl
 i171 := by kernel_rfl
 i173 := by kernel_rfl
 i212 := by kernel_rfl
 i232 := by kernel_rfl
 i233 := by kernel_rfl
 m17 := by kernel_rfl
 m18 := by kernel_rfl
 m19 := by kernel_rfl }
open Go.RowKit Go.Sort Go.Lib in
theorem Tryz.strconv_Itoa (n : Int) (h0 : -9223372036854775808 ≤ n) (h1 : n ≤ 9223372036854775807) (w : World) (htab : Lib.TabIs Tryz.prog w "internal/strconv.uint64pow10" .u64 Lib.pow10Tab) :
  Calls Tryz.prog 159 #[.int .i64 n] w fun e w' => e = .returned (.string ⟨(Lib.itoa n).toArray⟩) ∧ ∃ k os,w' = grow (w.drewN k) os := Any.strconv_Itoa Tryz.laysM171 n h0 h1 w htab
def Tryz.laysC172_ren : Go.Shelf.Ren := ⟨fun | 172 => 130 | 244 => 182 | 245 => 183 | 247 => 239 | 279 => 240 | 280 => 241 | 281 => 242 | 282 => 243 | 287 => 284 | 316 => 194 | 171 => 159 | 205 => 285 | 321 => 304 | 322 => 305 | 243 => 218 | 246 => 260 | 283 => 291 | 284 => 292 | 285 => 293 | 286 => 294 | 129 => 213 | 317 => 316 | 318 => 317 | 319 => 318 | 320 => 319 | 337 => 323 | 338 => 324 | n => n,fun | 9 => 9 | 3 => 3 | 75 => 183 | 76 => 184 | 4 => 4 | 5 => 5 | 167 => 260 | 37 => 116 | 0 => 0 | 85 => 261 | 2 => 2 | 168 => 263 | 53 => 251 | 175 => 292 | 46 => 205 | 210 => 295 | 127 => 253 | 145 => 318 | 143 => 316 | 21 => 21 | 171 => 299 | 173 => 301 | 212 => 324 | 51 => 249 | 20 => 20 | 213 => 325 | 232 => 327 | 233 => 328 | 80 => 214 | n => n,fun | 15 => 1 | 16 => 2 | 17 => 6 | 18 => 7 | 19 => 8 | n => n⟩
def Tryz.lays150_ren : Go.Shelf.Ren := ⟨fun | 150 => 171 | 153 => 226 | 152 => 263 | 226 => 264 | 227 => 265 | 228 => 266 | 137 => 273 | 119 => 297 | 224 => 282 | 225 => 281 | 217 => 280 | 266 => 302 | n => n,fun | 9 => 9 | 4 => 4 | 3 => 3 | 5 => 5 | 21 => 21 | 117 => 283 | 116 => 282 | 0 => 0 | 46 => 205 | 124 => 305 | n => n,fun | n => n⟩
theorem Tryz.lays150 : Go.Proofs.Lays.n150 Tryz.prog Tryz.lays150_ren := {
 mixed := by kernel_rfl
 f119 := Tryz.func297.trans (congrArg some (by kernel_rfl))
 f137 := Tryz.func273.trans (congrArg some (by kernel_rfl))
 f150 := Tryz.func171.trans (congrArg some (by kernel_rfl))
 f152 := Tryz.func263.trans (congrArg some (by kernel_rfl))
 f153 := Tryz.func226.trans (congrArg some (by kernel_rfl))
 f217 := Tryz.func280.trans (congrArg some (by kernel_rfl))
 f224 := Tryz.func282.trans (congrArg some (by kernel_rfl))
 f225 := Tryz.func281.trans (congrArg some (by kernel_rfl))
 f226 := Tryz.func264.trans (congrArg some (by kernel_rfl))
 f227 := Tryz.func265.trans (congrArg some (by kernel_rfl))
 f228 := Tryz.func266.trans (congrArg some (by kernel_rfl))
 f266 := Tryz.func302.trans (congrArg some (by kernel_rfl))
 t0 := Tryz.underlying0
 a0 := Tryz.isAgg0
 z0 := Tryz.sizeOf0
 v0 := Tryz.zeroValue0
 t3 := Tryz.underlying3
 a3 := Tryz.isAgg3
 z3 := Tryz.sizeOf3
 v3 := Tryz.zeroValue3
 t4 := Tryz.underlying4
 a4 := Tryz.isAgg4
 z4 := Tryz.sizeOf4
 v4 := Tryz.zeroValue4
 t5 := Tryz.underlying5
 a5 := Tryz.isAgg5
 z5 := Tryz.sizeOf5
 v5 := Tryz.zeroValue5
 t9 := Tryz.underlying9
 a9 := Tryz.isAgg9
 z9 := Tryz.sizeOf9
 v9 := Tryz.zeroValue9
 t21 := Tryz.underlying21
 a21 := Tryz.isAgg21
 z21 := Tryz.sizeOf21
 v21 := Tryz.zeroValue21
 t46 := Tryz.underlying205
 a46 := Tryz.isAgg205
 z46 := Tryz.sizeOf205
 v46 := Tryz.zeroValue205
 t116 := Tryz.underlying282
 a116 := Tryz.isAgg282
 z116 := Tryz.sizeOf282
 t117 := Tryz.underlying283
 a117 := Tryz.isAgg283
 z117 := Tryz.sizeOf283
 v117 := Tryz.zeroValue283
 t124 := Tryz.underlying305
 a124 := Tryz.isAgg305
 z124 := Tryz.sizeOf305
 v124 := Tryz.zeroValue305 }
open Go.RowKit Go.Lib in
theorem Tryz.strings_ContainsAny_laid (s chars : ByteArray) (w : World) (hs : s.size < 4294967281) (hcs : chars.size < 4294967281) (has : ∀ (j : Nat) b,s.data.toList[j]? = some b → b.toNat < 128) (hac : ∀ (j : Nat) b,chars.data.toList[j]? = some b → b.toNat < 128) :
  Calls Tryz.prog 171 #[.string s,.string chars] w fun e w' => e = .returned (.bool (Lib.containsAny s.data.toList chars.data.toList)) ∧ Below w.heap.size w w' := Any.strings_ContainsAny_laid Tryz.lays150 (by kernel_rfl) s chars w hs hcs has hac
end Go.Proofs
/- path.keyText, walked. -/
/- path.parseStep, walked. -/
/- path.Parse, walked. -/
/- path.Text, walked. -/
namespace Go.Proofs.YteimbjamnfkapaaGreatDoor
open Go.RowKit
structure Glob5 (w : World) : Prop where
 len : ∃ m : Int,w.cell? ⟨0,0,none⟩ = some (.int .i64 m)
 tab : Lib.TabIs Tryz.prog w "internal/strconv.uint64pow10" .u64 Lib.pow10Tab
 ran : ∃ tp p, w.var? Tryz.prog "strconv.ErrRange" = some #[.iface tp p]
theorem Glob5.on {w w' : World} (h : Glob5 w) (hb : Below w.heap.size w w') : Glob5 w' :=
 ⟨h.len.imp fun _ hm => keepCell hb hm,var_on hb h.tab,h.ran.imp fun _ h1 => h1.imp fun _ h2 => var_on hb h2⟩
def keyM (k : List UInt8) : Bool := digB k || Lib.hasPrefix k [126,107]
def keyT (k : List UInt8) : List UInt8 := if keyM k = true then [126,107] ++ esc k else esc k
theorem repl_any (s old new : ByteArray) (w : World) (hg : Glob5 w) (hs : s.size ≤ 2000000000) (h1 : 1 ≤ old.size) (h2 : new.size ≤ 2) (hne : (old.data.toList == new.data.toList) = false) :
  Calls Tryz.prog 132 #[.string s,.string old,.string new] w fun e w' => e = .returned (.string (mkS (rA old.data.toList new.data.toList s.data.toList))) ∧ Below w.heap.size w w' := by
 obtain ⟨m,hm⟩ := hg.len
 have hc := Lib.countB_le old h1 s.size s (Nat.le_refl _)
 have hb : Lib.countB s old * new.size ≤ 2000000000 * 2 := Nat.mul_le_mul (by omega) h2
 have := Tryz.strings_ReplaceAll s old new m w (by omega) hm h1 (by omega)
 rw [ra_of hne] at this
 exact this
theorem len_esc1 (k : List UInt8) : (rA [126] [126,48] k).length ≤ 2 * k.length := by
 rw [ra_one]
 induction k with
 | nil => simp
 | cons b l ih =>
  rw [List.flatMap_cons,List.length_append,List.length_cons]
  have : (if b = 126 then [126,48] else [b] : List UInt8).length ≤ 2 := by split <;> simp
  omega
set_option maxRecDepth 100000 in
set_option maxHeartbeats 1000000 in
theorem ktext_any (s : ByteArray) (w : World) (hg : Glob5 w) (hs : s.size ≤ 1000000000) :
  Calls Tryz.prog 133 #[.string s] w fun e w' => e = .returned (.string (mkS (keyT s.data.toList))) ∧ Below w.heap.size w w' := by
 obtain ⟨s1,h1⟩ : ∃ s1,mkS (rA [126] [126,48] s.data.toList) = s1 := ⟨_,rfl⟩
 obtain ⟨s2,h2⟩ : ∃ s2,mkS (esc s.data.toList) = s2 := ⟨_,rfl⟩
 have hl1 : s1.size ≤ 2000000000 := by
  have := len_esc1 s.data.toList
  rw [← size_list s1,← h1,mkS_list]; rw [size_list] at this; omega
 have r1 : ∀ w',Below w.heap.size w w' → Calls Tryz.prog 132 #[.string s,.string ⟨#[126]⟩,.string ⟨#[126,48]⟩] w' fun e w2 => e = .returned (.string s1) ∧ Below w'.heap.size w' w2 := fun w' hb => by
  have := repl_any s ⟨#[126]⟩ ⟨#[126,48]⟩ w' (hg.on hb) (by omega) (by decide) (by decide) (by decide)
  rw [show rA (⟨#[126]⟩ : ByteArray).data.toList (⟨#[126,48]⟩ : ByteArray).data.toList s.data.toList = rA [126] [126,48] s.data.toList from rfl,h1] at this
  exact this
 have r2 : ∀ w',Below w.heap.size w w' → Calls Tryz.prog 132 #[.string s1,.string ⟨#[47]⟩,.string ⟨#[126,49]⟩] w' fun e w2 => e = .returned (.string s2) ∧ Below w'.heap.size w' w2 := fun w' hb => by
  have := repl_any s1 ⟨#[47]⟩ ⟨#[126,49]⟩ w' (hg.on hb) hl1 (by decide) (by decide) (by decide)
  rw [show rA (⟨#[47]⟩ : ByteArray).data.toList (⟨#[126,49]⟩ : ByteArray).data.toList s1.data.toList = esc s.data.toList by rw [← h1,mkS_list]; exact esc_of _,h2] at this
  exact this
 have rd : ∀ w',Calls Tryz.prog 129 #[.string s] w' fun e w2 => e = .returned (.bool (digB s.data.toList)) ∧ Below w'.heap.size w' w2 := fun w' => pdig_any s w' (by unfold maxLen; omega)
 have rp : ∀ w',Calls Tryz.prog 186 #[.string s,.string ⟨#[126,107]⟩] w' fun e w2 => e = .returned (.bool (Lib.hasPrefix s.data.toList [126,107])) ∧ w2 = w' := fun w' => Tryz.strings_HasPrefix s ⟨#[126,107]⟩ w'
 have HRET := hid (show keyM s.data.toList = true → (⟨#[126,107]⟩ : ByteArray) ++ s2 = mkS (keyT s.data.toList) by
  intro h; unfold keyT; rw [if_pos h,← h2]
  apply ByteArray.ext
  apply Array.ext'
  simp [mkS])
 have HRE2 := hid (show keyM s.data.toList = false → s2 = mkS (keyT s.data.toList) by
  intro h; unfold keyT; rw [if_neg (by rw [h]; decide),h2])
 have hs2 : s2.size ≤ 2000000000 := by
  have := esc_len s.data.toList
  rw [← size_list s2,← h2,mkS_list]; rw [size_list] at this; omega
 unfold keyM at HRET HRE2
 revert rd rp HRET HRE2
 generalize digB s.data.toList = bd
 generalize Lib.hasPrefix s.data.toList [126,107] = bp
 intro rd rp HRET HRE2
 clear h1 h2
 have hb0 := Below.refl w.heap.size w
 go_enter Tryz.func133,Tryz.ntmps133
 cases bd with
 | true =>
  have HR := hid (HRET.out (by simp))
  clear HRET HRE2
  go_wp2_with (first
   | (go_at_call 132; go_must (first | (refine (r2 _ hb1).mono ?_; rintro e w2 ⟨rfl,hb2⟩) | (refine (r1 _ hb0).mono ?_; rintro e w1 ⟨rfl,hb1⟩)))
   | (go_at_call 129; go_must (refine (rd _).mono ?_; rintro e w3 ⟨rfl,hb3⟩)))
  all_goals go_ret
  all_goals exact ⟨ret_str HR.out,vonto (vonto hb1 hb2) hb3⟩
 | false =>
  cases bp with
  | true =>
   have HR := hid (HRET.out (by simp))
   clear HRET HRE2
   go_wp2_with (first
    | (go_at_call 132; go_must (first | (refine (r2 _ hb1).mono ?_; rintro e w2 ⟨rfl,hb2⟩) | (refine (r1 _ hb0).mono ?_; rintro e w1 ⟨rfl,hb1⟩)))
    | (go_at_call 129; go_must (refine (rd _).mono ?_; rintro e w3 ⟨rfl,hb3⟩))
    | (go_at_call 186; go_must (refine (rp _).mono ?_; rintro e w4 ⟨rfl,rfl⟩)))
   all_goals go_ret
   all_goals exact ⟨ret_str HR.out,vonto (vonto hb1 hb2) hb3⟩
  | false =>
   have HR := hid (HRE2.out (by simp))
   clear HRET HRE2
   go_wp2_with (first
    | (go_at_call 132; go_must (first | (refine (r2 _ hb1).mono ?_; rintro e w2 ⟨rfl,hb2⟩) | (refine (r1 _ hb0).mono ?_; rintro e w1 ⟨rfl,hb1⟩)))
    | (go_at_call 129; go_must (refine (rd _).mono ?_; rintro e w3 ⟨rfl,hb3⟩))
    | (go_at_call 186; go_must (refine (rp _).mono ?_; rintro e w4 ⟨rfl,rfl⟩)))
   all_goals go_ret
   all_goals exact ⟨ret_str HR.out,vonto (vonto hb1 hb2) hb3⟩
end Go.Proofs.YteimbjamnfkapaaGreatDoor
namespace Go.Proofs.YteimbjamnfkapaaGreatDoor
open Go.RowKit
def dvs (a : Nat) (c : UInt8) : Nat := a * 10 + (c.toNat - 48)
def dv (acc : Nat) (l : List UInt8) : Nat := l.foldl dvs acc
def unK (l : List UInt8) : List UInt8 := rA [126,48] [126] (rA [126,49] [47] (Lib.trimPrefix l [126,107]))
def psOk (l : List UInt8) : Bool := if digB l = true then decide (dv 0 l ≤ 1000000000) else decide (keyT (unK l) = l)
def psStep (l : List UInt8) : PStep := if digB l = true then ⟨⟨#[]⟩,(if dv 0 l < 9223372036854775808 then dv 0 l else 9223372036854775807 : Nat),true⟩ else ⟨mkS (unK l),0,false⟩
def Z3 (w : World) (b : Nat) : Prop := (w.cell? ⟨b,0,none⟩ = some (.string ⟨#[]⟩) ∧ w.cell? ⟨b,1,none⟩ = some (.int .i64 0) ∧ w.cell? ⟨b,2,none⟩ = some (.bool false)) ∧ ∀ o,w.frozen? ⟨b,o,none⟩ = false
theorem Z3.onto {w w' : World} {b : Nat} (h : Z3 w b) (hb : Below w.heap.size w w') : Z3 w' b :=
 ⟨⟨keepCell hb h.1.1,keepCell hb h.1.2.1,keepCell hb h.1.2.2⟩,fun o => (hb.frozen (p := ⟨b,o,none⟩) (World.block_lt_of_cell? w ⟨b,0,none⟩ h.1.1)).trans (h.2 o)⟩
def piecesP (l : List UInt8) : List (List UInt8) := Lib.split (l.drop 1) [47]
def parseP (l : List UInt8) : Option (List PStep) :=
 if l = [] then some [] else if ¬ l.getD 0 0 = 47 then none else if (piecesP l).all psOk = true then some ((piecesP l).map psStep) else none
def ParsePost (l : List UInt8) (e : Ending) (w' : World) : Prop :=
 (∃ v p,parseP l = some p ∧ e = .returned (.tuple #[v,.int .i64 0]) ∧ InP w' p v) ∨ (parseP l = none ∧ e = .returned (.tuple #[.slice none 0 0,.int .i64 4]))
def put3 (w : World) (b o : Nat) (v0 v1 v2 : Value) : World := ((w.setCell ⟨b,o,none⟩ v0).setCell ⟨b,o + 1,none⟩ v1).setCell ⟨b,o + 2,none⟩ v2
def PPart (w : World) (b : Nat) (P : List ByteArray) (j : Nat) : Prop := ∀ k s,k < j → P[k]? = some s → psOk s.data.toList = true ∧
 w.cell? ⟨b,k * 3,none⟩ = some (.string (psStep s.data.toList).key) ∧ w.cell? ⟨b,k * 3 + 1,none⟩ = some (.int .i64 (psStep s.data.toList).at_) ∧ w.cell? ⟨b,k * 3 + 2,none⟩ = some (.bool (psStep s.data.toList).place)
def renB : Go.Shelf.Ren := ⟨fun | 166 => 158 | 167 => 157 | 240 => 217 | 276 => 259 | n => n,fun | 0 => 0 | 3 => 3 | 4 => 4 | 5 => 5 | 9 => 9 | 20 => 20 | 37 => 116 | 70 => 210 | 72 => 212 | 75 => 183 | 80 => 214 | 164 => 276 | n => n,fun | n => n⟩
theorem lays167 : Go.Proofs.Lays.n167 Tryz.prog renB := {
 mixed := by kernel_rfl
 f167 := Tryz.func157.trans (congrArg some (by kernel_rfl))
 f240 := Tryz.func217.trans (congrArg some (by kernel_rfl))
 f276 := Tryz.func259.trans (congrArg some (by kernel_rfl))
 t0 := Tryz.underlying0
 a0 := Tryz.isAgg0
 z0 := Tryz.sizeOf0
 v0 := Tryz.zeroValue0
 t4 := Tryz.underlying4
 a4 := Tryz.isAgg4
 z4 := Tryz.sizeOf4
 v4 := Tryz.zeroValue4
 t5 := Tryz.underlying5
 a5 := Tryz.isAgg5
 z5 := Tryz.sizeOf5
 v5 := Tryz.zeroValue5
 t9 := Tryz.underlying9
 a9 := Tryz.isAgg9
 z9 := Tryz.sizeOf9
 v9 := Tryz.zeroValue9
 t20 := Tryz.underlying20
 a20 := Tryz.isAgg20
 z20 := Tryz.sizeOf20
 v20 := Tryz.zeroValue20
 t37 := Tryz.underlying116
 a37 := Tryz.isAgg116
 z37 := Tryz.sizeOf116
 v37 := Tryz.zeroValue116
 t70 := Tryz.underlying210
 a70 := Tryz.isAgg210
 z70 := Tryz.sizeOf210
 v70 := Tryz.zeroValue210
 t72 := Tryz.underlying212
 a72 := Tryz.isAgg212
 z72 := Tryz.sizeOf212
 v72 := Tryz.zeroValue212
 t75 := Tryz.underlying183
 a75 := Tryz.isAgg183
 z75 := Tryz.sizeOf183
 v75 := Tryz.zeroValue183
 t164 := Tryz.underlying276
 a164 := Tryz.isAgg276
 z164 := Tryz.sizeOf276
 v164 := Tryz.zeroValue276 }
theorem lays166 : Go.Proofs.Lays.n166 Tryz.prog renB := {
 mixed := by kernel_rfl
 f166 := Tryz.func158.trans (congrArg some (by kernel_rfl))
 f240 := lays167.f240
 f276 := lays167.f276
 t0 := lays167.t0
 a0 := lays167.a0
 z0 := lays167.z0
 v0 := lays167.v0
 t3 := Tryz.underlying3
 a3 := Tryz.isAgg3
 z3 := Tryz.sizeOf3
 v3 := Tryz.zeroValue3
 t4 := lays167.t4
 a4 := lays167.a4
 z4 := lays167.z4
 v4 := lays167.v4
 t9 := lays167.t9
 a9 := lays167.a9
 z9 := lays167.z9
 v9 := lays167.v9
 t20 := lays167.t20
 a20 := lays167.a20
 z20 := lays167.z20
 v20 := lays167.v20
 t37 := lays167.t37
 a37 := lays167.a37
 z37 := lays167.z37
 v37 := lays167.v37
 t70 := lays167.t70
 a70 := lays167.a70
 z70 := lays167.z70
 v70 := lays167.v70
 t72 := lays167.t72
 a72 := lays167.a72
 z72 := lays167.z72
 v72 := lays167.v72
 t75 := lays167.t75
 a75 := lays167.a75
 z75 := lays167.z75
 v75 := lays167.v75
 t164 := lays167.t164
 a164 := lays167.a164
 z164 := lays167.z164
 v164 := lays167.v164 }
theorem extraB : Builder.Extra Tryz.prog renB := {
 sizeBuilder := by kernel_rfl
 liesBuilder := by kernel_rfl
 t5 := lays167.t5
 a5 := lays167.a5
 z5 := lays167.z5
 v5 := lays167.v5
 infoByte := by kernel_rfl
 cellsByte := by kernel_rfl
 sizeByte := by kernel_rfl
 neB5 := by decide }
def Bld (B b : Nat) (l : List UInt8) (w : World) : Prop := Lib.IsBuilderF 212 5 B b (Lib.byteCells l) w
theorem Bld.onto {B b : Nat} {l : List UInt8} {w w' : World} (h : Bld B b l w) (hb : Below w.heap.size w w') : Bld B b l w' := by
 have one : ∀ p,Lib.BuilderAtF 212 5 B b p (Lib.byteCells l) w → Lib.BuilderAtF 212 5 B b p (Lib.byteCells l) w' := by
  rintro p ⟨hB,v,h1,h2,h3⟩
  refine ⟨hB,v,?_,⟨h2.1,?_⟩,h3⟩
  ·rw [hb.block b (Array.getElem?_eq_some_iff.1 h1).1]; exact h1
  ·rcases h2.2 with hn | ⟨g,cap,cur,fz,rfl,hb2,hgg,rest⟩
   ·exact .inl hn
   ·exact .inr ⟨g,cap,cur,fz,rfl,hb2,by rw [hb.block g (Array.getElem?_eq_some_iff.1 hgg).1]; exact hgg,rest⟩
 exact h.elim (fun x => .inl (one _ x)) (fun x => .inr (one _ x))
theorem wbyte_any (B b : Nat) (l : List UInt8) (c : UInt8) (w : World) (h : Bld B b l w) (hlen : l.length + 1 ≤ 140737488355328) (hB : B ≤ w.heap.size) :
  Calls Tryz.prog 157 #[.pointer (some ⟨b,0,none⟩),.int .u8 c.toNat] w fun e w' => e = .returned .nilIface ∧ Bld B b (l ++ [c]) w' ∧ Below B w w' ∧ Lib.OthersKept 5 (some b) w w' := by
 have := Any.Builder_WriteByte_k lays167 extraB B b (Lib.byteCells l) c.toNat w h (by rw [Lib.byteCells_length]; exact hlen) hB
 refine Calls.mono this ?_
 rintro e w' ⟨rfl,h1,h2,h3⟩
 refine ⟨rfl,.inr ?_,h2,h3⟩
 rw [show Lib.byteCells (l ++ [c]) = Lib.byteCells l ++ [.int .u8 c.toNat] by simp [Lib.byteCells]]
 exact h1
theorem wstr_any (B b : Nat) (l : List UInt8) (s : ByteArray) (w : World) (h : Bld B b l w) (hlen : l.length + s.size ≤ 140737488355328) (hB : B ≤ w.heap.size) :
  Calls Tryz.prog 158 #[.pointer (some ⟨b,0,none⟩),.string s] w fun e w' => e = .returned (.tuple #[.int .i64 s.size,.nilIface]) ∧ Bld B b (l ++ s.data.toList) w' ∧ Below B w w' ∧ Lib.OthersKept 5 (some b) w w' := by
 have := Any.Builder_WriteString_k lays166 extraB B b (Lib.byteCells l) s w h (by rw [Lib.byteCells_length]; exact hlen) hB
 refine Calls.mono this ?_
 rintro e w' ⟨rfl,h1,h2,h3⟩
 refine ⟨rfl,.inr ?_,h2,h3⟩
 rw [show Lib.byteCells (l ++ s.data.toList) = Lib.byteCells l ++ Lib.strCells s by simp [Lib.byteCells,Lib.strCells]]
 exact h1
theorem heap_new (w : World) (o : Obj) : (w.alloc o).heap[w.heap.size]? = some o := by simp only [World.alloc,Array.getElem?_push_size]
theorem Bld.lt {B b : Nat} {l : List UInt8} {w : World} (h : Bld B b l w) : b < w.heap.size := h.elim (fun x => x.lt) (fun x => x.lt)
theorem bld_new (w : World) : Bld w.heap.size w.heap.size [] (w.alloc (.cells #[.pointer none,.slice none 0 0] 212)) :=
 .inl ⟨Nat.le_refl _,.slice none 0 0,heap_new _ _,World.ownsRowF_nil _ _ _ _,by simp [Value.ownBlock]⟩
theorem others_cell {b : Option Nat} {w w' : World} (h : Lib.OthersKept 5 b w w') {k : Nat} {c : Array Value} {ty : TypeId} {fz : Nat × Nat} (hk : w.heap[k]? = some (.cells c ty fz)) (hb : some k ≠ b) (ht : ty ≠ 5) : w'.heap[k]? = some (.cells c ty fz) :=
 h k _ hk hb (fun c' fz' e => ht (by injection e))
def stepT (s : PStep) : List UInt8 := if s.place = true then Lib.itoa s.at_ else keyT s.key.data.toList
def textP (ps : List PStep) : List UInt8 := ps.flatMap fun s => 47 :: stepT s
def Small (s : PStep) : Prop := s.key.size ≤ 1000000 ∧ -9223372036854775808 ≤ s.at_ ∧ s.at_ ≤ 9223372036854775807
theorem stepT_len {s : PStep} (h : Small s) : (stepT s).length ≤ 2000002 := by
 unfold stepT
 split
 ·have := Lib.itoa_length_le s.at_ h.2.1 h.2.2; omega
 ·have h1 := esc_len s.key.data.toList
  have h2 := h.1
  rw [size_list] at h1
  unfold keyT
  split
  ·simp only [List.length_append,List.length_cons,List.length_nil]; omega
  ·omega
theorem textP_len : ∀ (ps : List PStep),(∀ s ∈ ps,Small s) → (textP ps).length ≤ ps.length * 2000003
 | [],_ => Nat.zero_le _
 | s :: r,h => by
  have h1 := textP_len r fun t ht => h t (List.mem_cons_of_mem _ ht)
  have h2 := stepT_len (h s (List.mem_cons_self ..))
  show (47 :: stepT s ++ textP r).length ≤ _
  rw [List.length_append,List.length_cons,List.length_cons]
  omega
theorem textP_snoc {ps : List PStep} {j : Nat} {s : PStep} (h : ps[j]? = some s) : textP (ps.take (j + 1)) = (textP (ps.take j) ++ [47]) ++ stepT s := by
 obtain ⟨q1,q2⟩ := List.getElem?_eq_some_iff.1 h
 rw [List.take_succ_eq_append_getElem q1,q2]
 simp [textP]
set_option maxRecDepth 100000 in
set_option maxHeartbeats 1000000 in
theorem ptext_any (ps : List PStep) (v : Value) (w : World) (hp : InP w ps v) (hg : Glob5 w) (hl : ps.length ≤ 1000000) (hk : ∀ s ∈ ps,Small s) :
  Calls Tryz.prog 107 #[v] w fun e w' => e = .returned (.string (mkS (textP ps))) ∧ Below w.heap.size w w' := by
 obtain ⟨a,⟨o,c,rfl,g1,g2,g3⟩,gc⟩ := hp
 unfold maxLen at g2
 have GC := hid gc
 have GK := hid hk
 have HG := hid hg
 have hbn := bld_new w
 have HBN := hid hbn
 clear gc hbn hk hg
 go_enter Tryz.func107,Tryz.ntmps107
 go_wp2_with fail
 go_loopw [8] (fun i wr => ∃ (j : Nat),i = .int .i64 j ∧ j ≤ ps.length ∧ Hid (Bld w.heap.size w.heap.size (textP (ps.take j)) wr) ∧ Hid (Below w.heap.size w wr)) (fun i _ => ps.length - (intOf i).toNat)
 case atStart => exact ⟨0,rfl,Nat.zero_le _,HBN.out,valloc_bel (Below.refl _ _) _⟩
 case round =>
  obtain ⟨j,rfl,hj,HD,HB⟩ := hrel
  by_cases hlt : j < ps.length
  ·obtain ⟨s,hs⟩ : ∃ s,ps[j]? = some s := ⟨ps[j],List.getElem?_eq_getElem hlt⟩
   obtain rfl := g3 (by omega)
   obtain ⟨c0,c1,c2,-⟩ := GC.out j s hs
   replace c0 := keepCell HB.out c0
   replace c1 := keepCell HB.out c1
   replace c2 := keepCell HB.out c2
   have hsm := GK.out s (List.mem_of_getElem? hs)
   have hln := textP_len (ps.take j) fun t ht => GK.out t (List.mem_of_mem_take ht)
   have hsl := stepT_len hsm
   have HT := hid (textP_snoc hs)
   have hlj : (textP (ps.take j)).length ≤ 2000003000000 := by
    rw [List.length_take] at hln
    refine Nat.le_trans hln (Nat.le_trans (Nat.mul_le_mul_right _ (Nat.le_trans (Nat.min_le_left _ _) (Nat.le_trans hj hl))) (by decide))
   have hltw := HD.out.lt
   have hsz := HB.out.size
   generalize hl0 : textP (ps.take j) = l0 at *
   have C1 := hid (fun (X : World) (hX : Below wr.heap.size wr X) => show Calls Tryz.prog 157 #[.pointer (some ⟨w.heap.size,0,none⟩),.int .u8 47] X fun e w' => e = .returned .nilIface ∧ Bld w.heap.size w.heap.size (l0 ++ [47]) w' ∧ Below w.heap.size X w' ∧ Lib.OthersKept 5 (some w.heap.size) X w' from wbyte_any w.heap.size w.heap.size l0 47 X (HD.out.onto hX) (by omega) (Nat.le_trans hsz hX.size))
   clear hs hl0 hln
   obtain ⟨key,at_,pl⟩ := s
   simp only at c0 c1 c2
   go_wp2_with fail
   go_at_call 157
   refine (C1.out _ (valloc_bel (Below.refl _ _) _)).mono ?_
   rintro e w1 ⟨rfl,d1,b1,k1⟩
   have hbox := others_cell k1 (heap_new wr _) (by intro h; injection h with h; omega) (by decide)
   have x0 := cell_of_row w1 wr.heap.size 0 _ _ _ hbox
   have x1 := cell_of_row w1 wr.heap.size 1 _ _ _ hbox
   have x2 := cell_of_row w1 wr.heap.size 2 _ _ _ hbox
   simp at x0 x1 x2
   have HB1 := hid ((valloc_bel HB.out _).trans b1)
   have hs1 := HB1.out.size
   have HD1 := hid d1
   have hg1 := HG.out.on HB1.out
   clear hbox k1 d1 b1 c0 c1 c2 C1
   cases pl with
   | true =>
    have CI := hid (Tryz.strconv_Itoa at_ hsm.2.1 hsm.2.2 w1 hg1.tab)
    unfold stepT at HT hsl
    simp only [if_true] at HT hsl
    have CW := hid (fun (X : World) (hX : Below w1.heap.size w1 X) => wstr_any w.heap.size w.heap.size (l0 ++ [47]) ⟨(Lib.itoa at_).toArray⟩ X (HD1.out.onto hX) (by simp [ByteArray.size]; omega) (Nat.le_trans hs1 hX.size))
    clear hsm hg1 hsl
    go_wp2_with fail
    go_at_call 159
    refine CI.out.mono ?_
    rintro e w2 ⟨rfl,k2,os2,hw2⟩
    have b2 : Below w1.heap.size w1 w2 := by rw [hw2]; exact Lib.below_grow _ _ (Nat.le_refl _) _ _
    have HB2 := hid (vonto HB1.out b2)
    have C3 := hid (CW.out w2 b2)
    clear CW b2 hw2
    go_wp2_with fail
    go_at_call 158
    refine C3.out.mono ?_
    rintro e w3 ⟨rfl,d3,b3,-⟩
    have HD3 := hid d3
    have HB3 := hid (HB2.out.trans b3)
    clear d3 b3
    go_wp2_with fail
    go_roundw
    case rel => exact ⟨j + 1,val_int (by omega),hlt,by rw [HT.out]; exact HD3.out,HB3.out⟩
    case measure => simp [intOf]; omega
   | false =>
    have CI := hid (ktext_any key w1 hg1 (Nat.le_trans hsm.1 (by decide)))
    unfold stepT at HT hsl
    simp only [Bool.false_eq_true,if_false] at HT hsl
    have CW := hid (fun (X : World) (hX : Below w1.heap.size w1 X) => wstr_any w.heap.size w.heap.size (l0 ++ [47]) (mkS (keyT key.data.toList)) X (HD1.out.onto hX) (by rw [← size_list,mkS_list]; simp; omega) (Nat.le_trans hs1 hX.size))
    rw [mkS_list] at CW
    clear hsm hg1 hsl
    go_wp2_with fail
    go_at_call 133
    refine CI.out.mono ?_
    rintro e w2 ⟨rfl,b2⟩
    have HB2 := hid (vonto HB1.out b2)
    have C3 := hid (CW.out w2 b2)
    clear CW b2
    go_wp2_with fail
    go_at_call 158
    refine C3.out.mono ?_
    rintro e w3 ⟨rfl,d3,b3,-⟩
    have HD3 := hid d3
    have HB3 := hid (HB2.out.trans b3)
    clear d3 b3
    go_wp2_with fail
    go_roundw
    case rel => exact ⟨j + 1,val_int (by omega),hlt,by rw [HT.out]; exact HD3.out,HB3.out⟩
    case measure => simp [intOf]; omega
  ·have htk : ps.take j = ps := List.take_of_length_le (by omega)
   rw [htk] at HD
   have hsz := HB.out.size
   have CS := hid (Tryz.Builder_String_any_k w.heap.size w.heap.size (textP ps) wr HD.out hsz)
   clear htk
   go_wp2_with fail
   go_at_call 160
   refine CS.out.mono ?_
   rintro e w1 ⟨rfl,-,b1,-⟩
   have HB1 := hid (HB.out.trans b1)
   clear b1
   go_wp2_with fail
   go_ret
   exact ⟨rfl,HB1.out⟩
end Go.Proofs.YteimbjamnfkapaaGreatDoor
