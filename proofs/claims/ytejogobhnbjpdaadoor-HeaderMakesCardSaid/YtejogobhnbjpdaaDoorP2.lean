/- The library's Trim, TrimLeft, LastIndexByte for this seat; Walks: blank, directive, part; Walks: part; Walks: the comments that stand alone; the last line that is blank; Walks: the last line that is blank; Walks: a constraint of the elder form. -/
import Derived.Test.YtejogobhnbjpdaaDoorP1
import Derived.Shelf.Strings.SlTrimAscii
import Derived.Shelf.Strings.LastIndex
namespace Go.Proofs
open Go.RowKit
def Tryd.lays160_ren : Go.Shelf.Ren := ⟨fun | 119 => 125 | 120 => 117 | 137 => 124 | 151 => 109 | 152 => 114 | 160 => 81 | 197 => 87 | 217 => 118 | 224 => 120 | 225 => 119 | 227 => 94 | 228 => 108 | 231 => 92 | 232 => 93 | 233 => 95 | 234 => 96 | 235 => 97 | 236 => 98 | 260 => 106 | 266 => 126 | 271 => 110 | n => n, fun | 0 => 0 | 3 => 3 | 4 => 4 | 5 => 5 | 9 => 9 | 21 => 21 | 46 => 38 | 105 => 83 | 116 => 102 | 117 => 103 | 119 => 121 | 124 => 106 | 138 => 123 | 139 => 124 | n => n, fun | 3 => 1 | 4 => 2 | n => n⟩
theorem Tryd.lays160 : Go.Proofs.Lays.n160 Tryd.prog Tryd.lays160_ren := {
  mixed := by kernel_rfl
  f119 := Tryd.func125.trans (congrArg some (by kernel_rfl))
  f120 := Tryd.func117.trans (congrArg some (by kernel_rfl))
  f137 := Tryd.func124.trans (congrArg some (by kernel_rfl))
  f151 := Tryd.func109.trans (congrArg some (by kernel_rfl))
  f152 := Tryd.func114.trans (congrArg some (by kernel_rfl))
  f160 := Tryd.func81.trans (congrArg some (by kernel_rfl))
  f197 := Tryd.func87.trans (congrArg some (by kernel_rfl))
  f217 := Tryd.func118.trans (congrArg some (by kernel_rfl))
  f224 := Tryd.func120.trans (congrArg some (by kernel_rfl))
  f225 := Tryd.func119.trans (congrArg some (by kernel_rfl))
  f227 := Tryd.func94.trans (congrArg some (by kernel_rfl))
  f228 := Tryd.func108.trans (congrArg some (by kernel_rfl))
  f231 := Tryd.func92.trans (congrArg some (by kernel_rfl))
  f232 := Tryd.func93.trans (congrArg some (by kernel_rfl))
  f233 := Tryd.func95.trans (congrArg some (by kernel_rfl))
  f234 := Tryd.func96.trans (congrArg some (by kernel_rfl))
  f235 := Tryd.func97.trans (congrArg some (by kernel_rfl))
  f236 := Tryd.func98.trans (congrArg some (by kernel_rfl))
  f260 := Tryd.func106.trans (congrArg some (by kernel_rfl))
  f266 := Tryd.func126.trans (congrArg some (by kernel_rfl))
  f271 := Tryd.func110.trans (congrArg some (by kernel_rfl))
  t0 := Tryd.underlying0
  a0 := Tryd.isAgg0
  z0 := Tryd.sizeOf0
  v0 := Tryd.zeroValue0
  t3 := Tryd.underlying3
  a3 := Tryd.isAgg3
  z3 := Tryd.sizeOf3
  v3 := Tryd.zeroValue3
  t4 := Tryd.underlying4
  a4 := Tryd.isAgg4
  z4 := Tryd.sizeOf4
  v4 := Tryd.zeroValue4
  t5 := Tryd.underlying5
  a5 := Tryd.isAgg5
  z5 := Tryd.sizeOf5
  v5 := Tryd.zeroValue5
  t9 := Tryd.underlying9
  a9 := Tryd.isAgg9
  z9 := Tryd.sizeOf9
  v9 := Tryd.zeroValue9
  t21 := Tryd.underlying21
  a21 := Tryd.isAgg21
  z21 := Tryd.sizeOf21
  v21 := Tryd.zeroValue21
  t46 := Tryd.underlying38
  a46 := Tryd.isAgg38
  z46 := Tryd.sizeOf38
  v46 := Tryd.zeroValue38
  t105 := Tryd.underlying83
  a105 := Tryd.isAgg83
  z105 := Tryd.sizeOf83
  v105 := Tryd.zeroValue83
  t116 := Tryd.underlying102
  a116 := Tryd.isAgg102
  z116 := Tryd.sizeOf102
  t117 := Tryd.underlying103
  a117 := Tryd.isAgg103
  z117 := Tryd.sizeOf103
  v117 := Tryd.zeroValue103
  t119 := Tryd.underlying121
  a119 := Tryd.isAgg121
  z119 := Tryd.sizeOf121
  t124 := Tryd.underlying106
  a124 := Tryd.isAgg106
  z124 := Tryd.sizeOf106
  v124 := Tryd.zeroValue106
  t138 := Tryd.underlying123
  a138 := Tryd.isAgg123
  z138 := Tryd.sizeOf123
  v138 := Tryd.zeroValue123
  t139 := Tryd.underlying124
  a139 := Tryd.isAgg124
  z139 := Tryd.sizeOf124
  v139 := Tryd.zeroValue124
  g3 := by kernel_rfl
  g4 := by kernel_rfl
}
def Tryd.lays161_ren : Go.Shelf.Ren := ⟨fun | 119 => 125 | 137 => 124 | 151 => 109 | 152 => 114 | 161 => 84 | 197 => 87 | 217 => 118 | 224 => 120 | 225 => 119 | 227 => 94 | 228 => 108 | 231 => 92 | 233 => 95 | 235 => 97 | 260 => 106 | 266 => 126 | n => n, fun | 0 => 0 | 3 => 3 | 4 => 4 | 5 => 5 | 9 => 9 | 21 => 21 | 46 => 38 | 105 => 83 | 116 => 102 | 117 => 103 | 119 => 121 | 124 => 106 | 138 => 123 | 139 => 124 | n => n, fun | 3 => 1 | 4 => 2 | n => n⟩
theorem Tryd.lays161 : Go.Proofs.Lays.n161 Tryd.prog Tryd.lays161_ren := {
  mixed := by kernel_rfl
  f119 := Tryd.func125.trans (congrArg some (by kernel_rfl))
  f137 := Tryd.func124.trans (congrArg some (by kernel_rfl))
  f151 := Tryd.func109.trans (congrArg some (by kernel_rfl))
  f152 := Tryd.func114.trans (congrArg some (by kernel_rfl))
  f161 := Tryd.func84.trans (congrArg some (by kernel_rfl))
  f197 := Tryd.func87.trans (congrArg some (by kernel_rfl))
  f217 := Tryd.func118.trans (congrArg some (by kernel_rfl))
  f224 := Tryd.func120.trans (congrArg some (by kernel_rfl))
  f225 := Tryd.func119.trans (congrArg some (by kernel_rfl))
  f227 := Tryd.func94.trans (congrArg some (by kernel_rfl))
  f228 := Tryd.func108.trans (congrArg some (by kernel_rfl))
  f231 := Tryd.func92.trans (congrArg some (by kernel_rfl))
  f233 := Tryd.func95.trans (congrArg some (by kernel_rfl))
  f235 := Tryd.func97.trans (congrArg some (by kernel_rfl))
  f260 := Tryd.func106.trans (congrArg some (by kernel_rfl))
  f266 := Tryd.func126.trans (congrArg some (by kernel_rfl))
  t0 := Tryd.underlying0
  a0 := Tryd.isAgg0
  z0 := Tryd.sizeOf0
  v0 := Tryd.zeroValue0
  t3 := Tryd.underlying3
  a3 := Tryd.isAgg3
  z3 := Tryd.sizeOf3
  v3 := Tryd.zeroValue3
  t4 := Tryd.underlying4
  a4 := Tryd.isAgg4
  z4 := Tryd.sizeOf4
  v4 := Tryd.zeroValue4
  t5 := Tryd.underlying5
  a5 := Tryd.isAgg5
  z5 := Tryd.sizeOf5
  v5 := Tryd.zeroValue5
  t9 := Tryd.underlying9
  a9 := Tryd.isAgg9
  z9 := Tryd.sizeOf9
  v9 := Tryd.zeroValue9
  t21 := Tryd.underlying21
  a21 := Tryd.isAgg21
  z21 := Tryd.sizeOf21
  v21 := Tryd.zeroValue21
  t46 := Tryd.underlying38
  a46 := Tryd.isAgg38
  z46 := Tryd.sizeOf38
  v46 := Tryd.zeroValue38
  t105 := Tryd.underlying83
  a105 := Tryd.isAgg83
  z105 := Tryd.sizeOf83
  v105 := Tryd.zeroValue83
  t116 := Tryd.underlying102
  a116 := Tryd.isAgg102
  z116 := Tryd.sizeOf102
  t117 := Tryd.underlying103
  a117 := Tryd.isAgg103
  z117 := Tryd.sizeOf103
  v117 := Tryd.zeroValue103
  t119 := Tryd.underlying121
  a119 := Tryd.isAgg121
  z119 := Tryd.sizeOf121
  t124 := Tryd.underlying106
  a124 := Tryd.isAgg106
  z124 := Tryd.sizeOf106
  v124 := Tryd.zeroValue106
  t138 := Tryd.underlying123
  a138 := Tryd.isAgg123
  z138 := Tryd.sizeOf123
  v138 := Tryd.zeroValue123
  t139 := Tryd.underlying124
  a139 := Tryd.isAgg124
  z139 := Tryd.sizeOf124
  v139 := Tryd.zeroValue124
  g3 := by kernel_rfl
  g4 := by kernel_rfl
}
def Tryd.lays149_ren : Go.Shelf.Ren := ⟨fun | 149 => 53 | 222 => 80 | n => n, fun | 3 => 3 | 4 => 4 | 5 => 5 | 9 => 9 | n => n, fun n => n⟩
theorem Tryd.lays149 : Go.Proofs.Lays.n149 Tryd.prog Tryd.lays149_ren := {
  mixed := by kernel_rfl
  f149 := Tryd.func53.trans (congrArg some (by kernel_rfl))
  f222 := Tryd.func80.trans (congrArg some (by kernel_rfl))
  t3 := Tryd.underlying3
  a3 := Tryd.isAgg3
  z3 := Tryd.sizeOf3
  v3 := Tryd.zeroValue3
  t4 := Tryd.underlying4
  a4 := Tryd.isAgg4
  z4 := Tryd.sizeOf4
  v4 := Tryd.zeroValue4
  t5 := Tryd.underlying5
  a5 := Tryd.isAgg5
  z5 := Tryd.sizeOf5
  v5 := Tryd.zeroValue5
  t9 := Tryd.underlying9
  a9 := Tryd.isAgg9
  z9 := Tryd.sizeOf9
  v9 := Tryd.zeroValue9
}
end Go.Proofs
namespace Go.Proofs.YtejogobhnbjpdaaDoor
set_option linter.unusedVariables false
open Go.ChangeShapes Go.WideShapes Go.ChangeAt Go.RowKit
abbrev wAround : ByteArray := ⟨#[32, 9, 13]⟩
abbrev wBetween : ByteArray := ⟨#[32, 9]⟩
def trimB (s : ByteArray) : ByteArray := ⟨(Lib.trimS s.data.toList wAround.data.toList).toArray⟩
def trimLB (s : ByteArray) : ByteArray := ⟨(Lib.trimLeftS s.data.toList wBetween.data.toList).toArray⟩
theorem trimS_any (s : ByteArray) (w : World) (hs : s.size ≤ 9223372036854775807) : Calls Tryd.prog 81 #[.string s, .string wAround] w fun e w' => e = .returned (.string (trimB s)) ∧ Below w.heap.size w w' :=
  Any.strings_Trim_laid Tryd.lays160 (by kernel_rfl) s wAround w hs (by decide) (ascii_of_all (by decide))
theorem trimLeft_any (s : ByteArray) (w : World) : Calls Tryd.prog 84 #[.string s, .string wBetween] w fun e w' => e = .returned (.string (trimLB s)) ∧ Below w.heap.size w w' :=
  Any.strings_TrimLeft_laid Tryd.lays161 (by kernel_rfl) s wBetween w (by decide) (ascii_of_all (by decide))
theorem lastIdx_any (s : ByteArray) (w : World) (hs : s.size < 4611686018427387904) : Calls Tryd.prog 53 #[.string s, .int .u8 10] w fun e w' => e = .returned (.int .i64 (Lib.lastIndexByte s 10)) ∧ w' = w :=
  Any.strings_LastIndexByte Tryd.lays149 s 10 hs w
end Go.Proofs.YtejogobhnbjpdaaDoor
namespace Go.Proofs.YtejogobhnbjpdaaDoor
set_option linter.unusedVariables false
set_option linter.unusedSimpArgs false
open Go.ChangeShapes Go.WideShapes Go.ChangeAt Go.RowKit

def blankB (s : ByteArray) : Bool := decide (trimB s = ⟨#[]⟩)
theorem hblank_any (s : ByteArray) (w : World) (hs : s.size ≤ 4194304) : Calls Tryd.prog 54 #[.string s] w fun e w' => e = .returned (.bool (blankB s)) ∧ Below w.heap.size w w' := by
  have HT := Lib.hid (fun w1 => trimS_any s w1 (by omega))
  have hpe : ((trimB s).toList == ([] : List UInt8)) = decide (trimB s = ⟨#[]⟩) := str_lit (trimB s) #[]
  unfold blankB
  generalize decide (trimB s = ⟨#[]⟩) = bb at *
  go_enter Tryd.func54, Tryd.ntmps54
  go_wp2_with fail
  refine (HT.out _).mono ?_
  rintro r w1 ⟨rfl, hB⟩
  have HB := Lib.hid hB
  clear hB
  go_wp2_with fail
  go_ret
  exact ⟨rfl, HB.out⟩
/-- What stands behind a word. -/
def cutB (s p : ByteArray) : ByteArray := ⟨(Lib.trimPrefix s.data.toList p.data.toList).toArray⟩
/-- A directive of a word; false: it is none. -/
def dirR (s p : ByteArray) : ByteArray × Bool :=
  if Lib.hasPrefix s.data.toList p.data.toList = true then
    if h : 0 < (cutB s p).size then
      (if (cutB s p)[0] = 32 ∨ (cutB s p)[0] = 9 then (trimB (cutB s p), true) else (⟨#[]⟩, false))
    else (trimB (cutB s p), true)
  else (⟨#[]⟩, false)
theorem between_is (c : UInt8) : decide (0 ≤ Lib.indexByte wBetween.data.toList c) = (decide (c = 32) || decide (c = 9)) := by
  show decide (0 ≤ Lib.indexByte [32, 9] c) = _
  by_cases h1 : c = 32
  · subst h1; decide
  · by_cases h2 : c = 9
    · subst h2; decide
    · rw [decide_eq_false h1, decide_eq_false h2]
      apply decide_eq_false
      simp [Lib.indexByte, Ne.symm h1, Ne.symm h2]
theorem one_is (s : ByteArray) (h : 0 < s.size) : s.extract 0 1 = ⟨#[s[0]]⟩ := by
  have e : (s.extract 0 1).data = #[s[0]] := by
    rw [ByteArray.data_extract]
    have hz : 0 < s.data.size := h
    apply Array.ext
    · simp; omega
    · intro i h1 h2
      have : i = 0 := by simp at h2; exact h2
      subst this
      simp
      rfl
  exact ByteArray.ext e
theorem cutB_size (s p : ByteArray) : (cutB s p).size ≤ s.size := by
  show (Lib.trimPrefix s.data.toList p.data.toList).toArray.size ≤ s.data.size
  unfold Lib.trimPrefix
  split
  · simp
  · simp
set_option maxHeartbeats 1000000 in
theorem directive_any (s p : ByteArray) (w : World) (hs : s.size ≤ 4194304) : Calls Tryd.prog 55 #[.string s, .string p] w fun e w' => e = .returned (.tuple #[.string (dirR s p).1, .bool (dirR s p).2]) ∧ Below w.heap.size w w' := by
  have hcs := cutB_size s p
  have HC := Lib.hid (fun w1 => Tryd.strings_CutPrefix s p w1)
  have HT := Lib.hid (fun w1 => trimS_any (cutB s p) w1 (by omega))
  change Hid (∀ w1, Calls Tryd.prog 82 #[.string s, .string p] w1 fun e w' => e = .returned (.tuple #[.string (cutB s p), .bool (Lib.hasPrefix s.data.toList p.data.toList)]) ∧ w' = w1) at HC
  unfold dirR
  generalize Lib.hasPrefix s.data.toList p.data.toList = hp at *
  generalize cutB s p = c at *
  cases hp
  · rw [if_neg Bool.noConfusion]
    go_enter Tryd.func55, Tryd.ntmps55
    go_wp2_with fail
    refine (HC.out _).mono ?_
    rintro r w1 ⟨rfl, rfl⟩
    go_wp2_with fail
    go_ret2
    exact ⟨rfl, Below.refl _ _⟩
  rw [if_pos rfl]
  have hpe : (c.toList == ([] : List UInt8)) = decide (c = ⟨#[]⟩) := str_lit c #[]
  by_cases h0 : 0 < c.size
  case neg =>
    rw [dif_neg h0]
    have hc0 : c = ⟨#[]⟩ := ByteArray.ext (Array.eq_empty_of_size_eq_zero (show c.data.size = 0 from by have : c.size = c.data.size := rfl; omega))
    rw [decide_eq_true hc0] at hpe
    have hpn : (c.toList != ([] : List UInt8)) = false := by rw [bne, hpe]; rfl
    clear hc0
    generalize trimB c = tc at *
    go_enter Tryd.func55, Tryd.ntmps55
    go_wp2_with fail
    refine (HC.out _).mono ?_
    rintro r w1 ⟨rfl, rfl⟩
    go_wp2_with fail
    refine (HT.out _).mono ?_
    rintro r w2 ⟨rfl, hB⟩
    have HB := Lib.hid hB
    clear hB
    go_wp2_with fail
    go_ret2
    exact ⟨rfl, HB.out⟩
  rw [dif_pos h0]
  rw [decide_eq_false (fun h => by rw [h] at h0; exact Nat.lt_irrefl 0 h0)] at hpe
  have hpn : (c.toList != ([] : List UInt8)) = true := by rw [bne, hpe]; rfl
  have HO := Lib.hid (fun w1 => Tryd.strings_Contains_one wBetween c[0] w1)
  rw [between_is, ← one_is c h0] at HO
  by_cases hb : c[0] = 32 ∨ c[0] = 9
  · rw [if_pos hb]
    rw [show (decide (c[0] = 32) || decide (c[0] = 9)) = true by rcases hb with h | h <;> rw [h] <;> rfl] at HO
    clear hb
    generalize trimB c = tc at *
    go_enter Tryd.func55, Tryd.ntmps55
    go_wp2_with fail
    refine (HC.out _).mono ?_
    rintro r w1 ⟨rfl, rfl⟩
    go_wp2_with fail
    refine (HO.out _).mono ?_
    rintro r w2 ⟨rfl, rfl⟩
    go_wp2_with fail
    refine (HT.out _).mono ?_
    rintro r w2 ⟨rfl, hB⟩
    have HB := Lib.hid hB
    clear hB
    go_wp2_with fail
    go_ret2
    exact ⟨rfl, HB.out⟩
  · rw [if_neg hb]
    rw [show (decide (c[0] = 32) || decide (c[0] = 9)) = false by rw [decide_eq_false (fun h => hb (.inl h)), decide_eq_false (fun h => hb (.inr h))]; rfl] at HO
    clear hb
    go_enter Tryd.func55, Tryd.ntmps55
    go_wp2_with fail
    refine (HC.out _).mono ?_
    rintro r w1 ⟨rfl, rfl⟩
    go_wp2_with fail
    refine (HO.out _).mono ?_
    rintro r w2 ⟨rfl, rfl⟩
    go_wp2_with fail
    go_ret2
    exact ⟨rfl, Below.refl _ _⟩
end Go.Proofs.YtejogobhnbjpdaaDoor
namespace Go.Proofs.YtejogobhnbjpdaaDoor
set_option linter.unusedVariables false
set_option linter.unusedSimpArgs false
open Go.ChangeShapes Go.WideShapes Go.ChangeAt Go.RowKit

theorem new2 (w : World) (A B : Obj) : ((w.alloc A).alloc B).heap[w.heap.size + 1]? = some B := by
  have h := heap_alloc_new (w.alloc A) B
  have e : (w.alloc A).heap.size = w.heap.size + 1 := by simp
  rw [e] at h
  exact h
def inB (fr up : Int) (x : Tk) : Bool := decide (fr < (x.2.2 : Int)) && decide ((x.2.2 : Int) < up)
set_option maxRecDepth 100000 in
set_option maxHeartbeats 2000000 in
theorem part_any (M : List Tk) (v : Value) (fr up : Int) (w : World) (h : LAt 3 tkV w v M) (hM : M.length ≤ 4194304) :
    Calls Tryd.prog 35 #[v, .int .i64 fr, .int .i64 up] w fun e w' => ∃ v', e = .returned v' ∧ LAt 3 tkV w' v' (M.filter (inB fr up)) ∧ Below w.heap.size w w' := by
  obtain ⟨pp, cap, rfl, hp⟩ := h.shape
  have HV := Lib.hid h
  have Hp := Lib.hid hp
  obtain ⟨len, hl⟩ : ∃ len, len = M.length := ⟨_, rfl⟩
  rw [← hl] at HV Hp hM ⊢
  have Hl := Lib.hid hl
  clear h hp hl
  go_enter Tryd.func35, Tryd.ntmps35
  go_wp2_with fail
  go_loopg [7, 12] len (fun g vo iv wr => ∃ (k : Nat) (L : List Tk), k + g = len ∧ iv = .int .i64 k ∧ Hid (wr.ownsRow w.heap.size 31 3 vo L.length (LF tkV L)) ∧ Hid (L = (M.take k).filter (inB fr up)) ∧ L.length ≤ k ∧ Hid (Below w.heap.size w wr))
  case atStart => exact ⟨0, [], by omega, rfl, Lib.hid ⟨rfl, .inl ⟨rfl, rfl⟩⟩, Lib.hid rfl, by simp, Lib.hid (Below.refl _ _)⟩
  case round =>
    obtain ⟨i, L, hig, rfl, HO, HL, hLk, HB⟩ := hrel
    by_cases hlt : i < len
    case neg =>
      have hnI : ¬ (i : Int) < (len : Int) := by omega
      have HL2 := Lib.hid (show L = M.filter (inB fr up) from by rw [HL.out, List.take_of_length_le (by rw [← Hl.out]; omega)])
      go_wp2_with fail
      go_ret
      exact ⟨_, rfl, by rw [← HL2.out]; exact LAt.own (fun y _ => tkV_len y) HO.out, HB.out⟩
    have hltI : (i : Int) < (len : Int) := by omega
    have hiM : i < M.length := by have := Hl.out; omega
    obtain ⟨g1, o1, rfl⟩ := Hp.out (by omega)
    obtain ⟨⟨k, x, p⟩, hx⟩ : ∃ t, M[i]? = some t := ⟨_, List.getElem?_eq_getElem hiM⟩
    obtain ⟨hg1, e0, e1, e2⟩ := HV.out.cells hx
    have f0 := (HB.out.cell (p := ⟨g1, o1 + i * 3, none⟩) hg1).trans e0
    have f1 := (HB.out.cell (p := ⟨g1, o1 + i * 3 + 1, none⟩) hg1).trans e1
    have f2 := (HB.out.cell (p := ⟨g1, o1 + i * 3 + 2, none⟩) hg1).trans e2
    have hf : (M.take (i + 1)).filter (inB fr up) = if inB fr up (k, x, p) = true then L ++ [(k, x, p)] else L := by
      rw [List.take_add_one, hx, List.filter_append, ← HL.out]
      by_cases hb : inB fr up (k, x, p) = true
      · rw [if_pos hb, Option.toList_some, List.filter_cons_of_pos hb, List.filter_nil]
      · rw [if_neg hb, Option.toList_some, List.filter_cons_of_neg hb, List.filter_nil, List.append_nil]
    have hba := (Below.refl wr.heap.size wr).alloc (Nat.le_refl _) (.cells #[.int .i64 k, .string x, .int .i64 p] 31)
    have HBa := Lib.hid (HB.out.trans (hba.mono HB.out.size))
    have HOa := Lib.hid (gen_own_below HO.out hba)
    have Hnew := Lib.hid (heap_alloc_new wr (.cells #[.int .i64 k, .string x, .int .i64 p] 31))
    clear e0 e1 e2 hx hba
    by_cases h1 : fr < (p : Int)
    case neg =>
      have Hf := Lib.hid (hf.trans (if_neg (by unfold inB; simp [h1])))
      clear hf
      go_wp2_with fail
      go_roundg (gk - 1)
      case measure => omega
      case rel => exact ⟨i + 1, L, by omega, by go_num, HOa, Lib.hid Hf.out.symm, by omega, HBa⟩
    by_cases h2 : (p : Int) < up
    case neg =>
      have Hf := Lib.hid (hf.trans (if_neg (by unfold inB; simp [h2])))
      clear hf
      go_wp2_with fail
      go_roundg (gk - 1)
      case measure => omega
      case rel => exact ⟨i + 1, L, by omega, by go_num, HOa, Lib.hid Hf.out.symm, by omega, HBa⟩
    have Hf := Lib.hid (hf.trans (if_pos (by unfold inB; simp [h1, h2])))
    clear hf
    go_wp2_with (first | (at_builtin; go_must (refine wpList_append_gen eltT rfl (.tmp 26) (.tmp 28) rfl rfl w.heap.size _ L rfl (gen_own_below HOa.out ((Below.refl _ _).alloc (Nat.le_refl _) _)) _ [(k, x, p)] (LAt.block rfl rfl (new2 _ _ _)) rfl (by simp only [List.length_cons, List.length_nil]; omega) (by unfold maxLen; simp only [List.length_cons, List.length_nil]; omega) (by have := HB.out.size; simp; omega) ?_); intro va wa hoa hga))
    have hBb := (HBa.out.alloc HBa.out.size (.cells #[.int .i64 k, .string x, .int .i64 p] 31)).grown hga (by have := HBa.out.size; simp at this ⊢; omega) (fun k hk => (HOa.out.lt k hk).1)
    have HBb := Lib.hid hBb
    have Hoa := Lib.hid hoa
    clear hBb hoa hga
    go_wp2_with fail
    go_roundg (gk - 1)
    case measure => omega
    case rel => exact ⟨i + 1, L ++ [(k, x, p)], by omega, by go_num, Hoa, Lib.hid Hf.out.symm, by simp; omega, HBb⟩
end Go.Proofs.YtejogobhnbjpdaaDoor
namespace Go.Proofs.YtejogobhnbjpdaaDoor
set_option linter.unusedVariables false
set_option linter.unusedSimpArgs false
open Go.ChangeShapes Go.WideShapes Go.ChangeAt Go.RowKit

/-- Where a text's last line begins, behind a mark. -/
def lineN (t : ByteArray) : Nat := if Lib.lastIndexByte t 10 < 0 then skN t else (Lib.lastIndexByte t 10).toNat + 1
def lineB (t : ByteArray) : ByteArray := t.extract (lineN t) t.size
def aloneB (s : ByteArray) (x : Tk) : Bool := Lib.hasPrefix x.2.1.data.toList [47, 47] && blankB (lineB (s.extract 0 x.2.2))
theorem last_or (t : ByteArray) : Lib.lastIndexByte t 10 = -1 ∨ ∃ n : Nat, n < t.size ∧ Lib.lastIndexByte t 10 = n := by
  rcases Lib.lastIdx_spec t 10 t.size with h | h
  · exact .inl h.1
  · obtain ⟨n, h1, h2, _⟩ := h
    exact .inr ⟨n, h1, h2⟩
theorem ext_size (t : ByteArray) (i j : Nat) : (t.extract i j).size ≤ t.size := by rw [ByteArray.size_extract]; omega
set_option maxRecDepth 100000 in
set_option maxHeartbeats 2000000 in
theorem alone_any (s : ByteArray) (M : List Tk) (v : Value) (w : World) (h : LAt 3 tkV w v M) (hM : M.length ≤ 4194304) (hs : s.size ≤ 1048576) (hP : ∀ x ∈ M, x.2.2 ≤ s.size) :
    Calls Tryd.prog 33 #[.string s, v] w fun e w' => ∃ v', e = .returned v' ∧ LAt 3 tkV w' v' (M.filter (aloneB s)) ∧ Below w.heap.size w w' := by
  obtain ⟨pp, cap, rfl, hp⟩ := h.shape
  have HV := Lib.hid h
  have Hp := Lib.hid hp
  have HP := Lib.hid hP
  obtain ⟨len, hl⟩ : ∃ len, len = M.length := ⟨_, rfl⟩
  rw [← hl] at HV Hp hM ⊢
  have Hl := Lib.hid hl
  clear h hp hl hP
  go_enter Tryd.func33, Tryd.ntmps33
  go_wp2_with fail
  go_loopg [5, 12] len (fun g vo iv wr => ∃ (k : Nat) (L : List Tk), k + g = len ∧ iv = .int .i64 k ∧ Hid (wr.ownsRow w.heap.size 31 3 vo L.length (LF tkV L)) ∧ Hid (L = (M.take k).filter (aloneB s)) ∧ L.length ≤ k ∧ Hid (Below w.heap.size w wr))
  case atStart => exact ⟨0, [], by omega, rfl, Lib.hid ⟨rfl, .inl ⟨rfl, rfl⟩⟩, Lib.hid rfl, by simp, Lib.hid (Below.refl _ _)⟩
  case round =>
    obtain ⟨i, L, hig, rfl, HO, HL, hLk, HB⟩ := hrel
    by_cases hlt : i < len
    case neg =>
      have hnI : ¬ (i : Int) < (len : Int) := by omega
      have HL2 := Lib.hid (show L = M.filter (aloneB s) from by rw [HL.out, List.take_of_length_le (by rw [← Hl.out]; omega)])
      go_wp2_with fail
      go_ret
      exact ⟨_, rfl, by rw [← HL2.out]; exact LAt.own (fun y _ => tkV_len y) HO.out, HB.out⟩
    have hltI : (i : Int) < (len : Int) := by omega
    have hiM : i < M.length := by have := Hl.out; omega
    obtain ⟨g1, o1, rfl⟩ := Hp.out (by omega)
    obtain ⟨⟨k, x, p⟩, hx⟩ : ∃ t, M[i]? = some t := ⟨_, List.getElem?_eq_getElem hiM⟩
    have hps : p ≤ s.size := HP.out _ (List.mem_of_getElem? hx)
    have hpI : (p : Int) ≤ (s.size : Int) := by omega
    obtain ⟨hg1, e0, e1, e2⟩ := HV.out.cells hx
    have f0 := (HB.out.cell (p := ⟨g1, o1 + i * 3, none⟩) hg1).trans e0
    have f1 := (HB.out.cell (p := ⟨g1, o1 + i * 3 + 1, none⟩) hg1).trans e1
    have f2 := (HB.out.cell (p := ⟨g1, o1 + i * 3 + 2, none⟩) hg1).trans e2
    have hf : (M.take (i + 1)).filter (aloneB s) = if aloneB s (k, x, p) = true then L ++ [(k, x, p)] else L := by
      rw [List.take_add_one, hx, List.filter_append, ← HL.out]
      by_cases hb : aloneB s (k, x, p) = true
      · rw [if_pos hb, Option.toList_some, List.filter_cons_of_pos hb, List.filter_nil]
      · rw [if_neg hb, Option.toList_some, List.filter_cons_of_neg hb, List.filter_nil, List.append_nil]
    have hba := (Below.refl wr.heap.size wr).alloc (Nat.le_refl _) (.cells #[.int .i64 k, .string x, .int .i64 p] 31)
    have HBa := Lib.hid (HB.out.trans (hba.mono HB.out.size))
    have HOa := Lib.hid (gen_own_below HO.out hba)
    have hnew := heap_alloc_new wr (.cells #[.int .i64 k, .string x, .int .i64 p] 31)
    have Hnew := Lib.hid hnew
    have HH := Lib.hid (fun w1 => Tryd.strings_HasPrefix x ⟨#[47, 47]⟩ w1)
    have hA : aloneB s (k, x, p) = (Lib.hasPrefix x.data.toList [47, 47] && blankB (lineB (s.extract 0 p))) := rfl
    rw [hA] at hf
    change Hid (∀ w1, Calls Tryd.prog 52 #[.string x, .string ⟨#[47, 47]⟩] w1 fun e w' => e = .returned (.bool (Lib.hasPrefix x.data.toList [47, 47])) ∧ w' = w1) at HH
    generalize Lib.hasPrefix x.data.toList [47, 47] = hb at *
    have hts : (s.extract 0 p).size ≤ 1048576 := Nat.le_trans (ext_size _ _ _) hs
    have HI := Lib.hid (fun w1 => lastIdx_any (s.extract 0 p) w1 (by omega))
    have HK := Lib.hid (fun w1 => sk_v (s.extract 0 p) w1)
    have hkl := skN_le (s.extract 0 p)
    have HT := Lib.hid (fun w1 => hblank_any (lineB (s.extract 0 p)) w1 (Nat.le_trans (ext_size _ _ _) (by omega)))
    clear e0 e1 e2 hx hba hA hnew
    cases hb
    case false =>
      have Hf := Lib.hid (hf.trans (if_neg Bool.noConfusion))
      clear hf
      go_wp2_with fail
      refine (HH.out _).mono ?_
      rintro r w1 ⟨rfl, rfl⟩
      go_wp2_with fail
      go_roundg (gk - 1)
      case measure => omega
      case rel => exact ⟨i + 1, L, by omega, by go_num, HOa, Lib.hid Hf.out.symm, by omega, HBa⟩
    rw [Bool.true_and] at hf
    have hl0 : lineB (s.extract 0 p) = (s.extract 0 p).extract (lineN (s.extract 0 p)) (s.extract 0 p).size := rfl
    have HLL := Lib.hid hl0
    have hor := last_or (s.extract 0 p)
    have hln : lineN (s.extract 0 p) = if Lib.lastIndexByte (s.extract 0 p) 10 < 0 then skN (s.extract 0 p) else (Lib.lastIndexByte (s.extract 0 p) 10).toNat + 1 := rfl
    rw [hln] at HLL
    clear hl0 hln
    go_wp2_with fail
    refine (HH.out _).mono ?_
    rintro r w1 ⟨rfl, rfl⟩
    go_wp2_with fail
    generalize s.extract 0 p = t at *
    generalize wr.alloc (.cells #[.int .i64 k, .string x, .int .i64 p] 31) = w2 at *
    refine (HI.out _).mono ?_
    rintro r w1 ⟨rfl, rfl⟩
    obtain ⟨bb, hbb⟩ : ∃ bb, blankB (lineB t) = bb := ⟨_, rfl⟩
    rw [hbb] at HT hf
    clear hbb
    rcases hor with hm | ⟨n, hn, hm⟩
    · rw [hm]
      rw [hm, if_pos (by decide)] at HLL
      rw [HLL.out] at HT
      have hkI : (skN t : Int) ≤ (t.size : Int) := by omega
      clear HLL hm HI
      go_wp2_with fail
      refine (HK.out _).mono ?_
      rintro r w4 ⟨rfl, rfl⟩
      go_wp2_with fail
      refine (HT.out _).mono ?_
      rintro r w3 ⟨rfl, hB⟩
      have HB3 := Lib.hid (HBa.out.trans (hB.mono HBa.out.size))
      have HO3 := Lib.hid (gen_own_below HOa.out hB)
      have hb3 := (hB.block wr.heap.size (lt_of_block Hnew.out)).trans Hnew.out
      have c0 := block_cell hb3 0
      have c1 := block_cell hb3 1
      have c2 := block_cell hb3 2
      clear hB hb3
      cases bb
      case false =>
        have Hf := Lib.hid (hf.trans (if_neg Bool.noConfusion))
        clear hf
        go_wp2_with fail
        go_roundg (gk - 1)
        case measure => omega
        case rel => exact ⟨i + 1, L, by omega, by go_num, HO3, Lib.hid Hf.out.symm, by omega, HB3⟩
      case true =>
        have Hf := Lib.hid (hf.trans (if_pos rfl))
        clear hf
        go_wp2_with (first | (at_builtin; go_must (refine wpList_append_gen eltT rfl (.tmp 38) (.tmp 40) rfl rfl w.heap.size _ L rfl (gen_own_below HO3.out ((Below.refl _ _).alloc (Nat.le_refl _) _)) _ [(k, x, p)] (LAt.block rfl rfl (heap_alloc_new _ _)) rfl (by simp only [List.length_cons, List.length_nil]; omega) (by unfold maxLen; simp only [List.length_cons, List.length_nil]; omega) (by have := HB3.out.size; simp; omega) ?_); intro va wa hoa hga))
        have hBb := (HB3.out.alloc HB3.out.size (.cells #[.int .i64 k, .string x, .int .i64 p] 31)).grown hga (by have := HB3.out.size; simp at this ⊢; omega) (fun k hk => (HO3.out.lt k hk).1)
        have HBb := Lib.hid hBb
        have Hoa := Lib.hid hoa
        clear hBb hoa hga
        go_wp2_with fail
        go_roundg (gk - 1)
        case measure => omega
        case rel => exact ⟨i + 1, L ++ [(k, x, p)], by omega, by go_num, Hoa, Lib.hid Hf.out.symm, by simp; omega, HBb⟩
    · rw [hm]
      rw [hm, if_neg (by omega), Int.toNat_natCast] at HLL
      rw [HLL.out] at HT
      have htn : ((n : Int) + 1).toNat = n + 1 := by omega
      have hnI : (n : Int) + 1 ≤ (t.size : Int) := by omega
      have hn0 : (0 : Int) ≤ (n : Int) := by omega
      have hn1 : n + 1 ≤ t.size := hn
      clear HLL hm HI
      go_wp2_with fail
      refine (HT.out _).mono ?_
      rintro r w3 ⟨rfl, hB⟩
      have HB3 := Lib.hid (HBa.out.trans (hB.mono HBa.out.size))
      have HO3 := Lib.hid (gen_own_below HOa.out hB)
      have hb3 := (hB.block wr.heap.size (lt_of_block Hnew.out)).trans Hnew.out
      have c0 := block_cell hb3 0
      have c1 := block_cell hb3 1
      have c2 := block_cell hb3 2
      clear hB hb3
      cases bb
      case false =>
        have Hf := Lib.hid (hf.trans (if_neg Bool.noConfusion))
        clear hf
        go_wp2_with fail
        go_roundg (gk - 1)
        case measure => omega
        case rel => exact ⟨i + 1, L, by omega, by go_num, HO3, Lib.hid Hf.out.symm, by omega, HB3⟩
      case true =>
        have Hf := Lib.hid (hf.trans (if_pos rfl))
        clear hf
        go_wp2_with (first | (at_builtin; go_must (refine wpList_append_gen eltT rfl (.tmp 38) (.tmp 40) rfl rfl w.heap.size _ L rfl (gen_own_below HO3.out ((Below.refl _ _).alloc (Nat.le_refl _) _)) _ [(k, x, p)] (LAt.block rfl rfl (heap_alloc_new _ _)) rfl (by simp only [List.length_cons, List.length_nil]; omega) (by unfold maxLen; simp only [List.length_cons, List.length_nil]; omega) (by have := HB3.out.size; simp; omega) ?_); intro va wa hoa hga))
        have hBb := (HB3.out.alloc HB3.out.size (.cells #[.int .i64 k, .string x, .int .i64 p] 31)).grown hga (by have := HB3.out.size; simp at this ⊢; omega) (fun k hk => (HO3.out.lt k hk).1)
        have HBb := Lib.hid hBb
        have Hoa := Lib.hid hoa
        clear hBb hoa hga
        go_wp2_with fail
        go_roundg (gk - 1)
        case measure => omega
        case rel => exact ⟨i + 1, L ++ [(k, x, p)], by omega, by go_num, Hoa, Lib.hid Hf.out.symm, by simp; omega, HBb⟩
end Go.Proofs.YtejogobhnbjpdaaDoor
namespace Go.Proofs.YtejogobhnbjpdaaDoor
set_option linter.unusedVariables false
set_option linter.unusedSimpArgs false
open Go.ChangeShapes Go.WideShapes Go.ChangeAt Go.RowKit

/-- The last line that is blank, of those that end ahead of a line feed, or at it. -/
def lbGo (s : ByteArray) (e : Nat) : Int :=
  if blankB (s.extract (Lib.lastIndexByte (s.extract 0 e) 10 + 1).toNat e) = true then Lib.lastIndexByte (s.extract 0 e) 10 + 1
  else if h : 0 ≤ Lib.lastIndexByte (s.extract 0 e) 10 ∧ (Lib.lastIndexByte (s.extract 0 e) 10).toNat < e then lbGo s (Lib.lastIndexByte (s.extract 0 e) 10).toNat
  else -1
termination_by e
decreasing_by exact h.2
def lbR (s : ByteArray) : Int := if Lib.lastIndexByte s 10 < 0 then -1 else lbGo s (Lib.lastIndexByte s 10).toNat
theorem lbGo_neg {s : ByteArray} {e : Nat} (h : Lib.lastIndexByte (s.extract 0 e) 10 = -1) : lbGo s e = if blankB (s.extract 0 e) = true then 0 else -1 := by
  rw [lbGo, h]
  show (if blankB (s.extract 0 e) = true then (0 : Int) else _) = _
  congr 1
theorem lbGo_pos {s : ByteArray} {e m : Nat} (h : Lib.lastIndexByte (s.extract 0 e) 10 = m) (hm : m < e) : lbGo s e = if blankB (s.extract (m + 1) e) = true then ((m : Int) + 1) else lbGo s m := by
  rw [lbGo, h]
  have e1 : ((m : Int) + 1).toNat = m + 1 := by omega
  rw [e1, dif_pos ⟨by omega, by rw [Int.toNat_natCast]; exact hm⟩, Int.toNat_natCast]
set_option maxRecDepth 100000 in
set_option maxHeartbeats 2000000 in
theorem lastBlank_any (s : ByteArray) (w : World) (hs : s.size ≤ 1048576) :
    Calls Tryd.prog 57 #[.string s] w fun e w' => e = .returned (.int .i64 (lbR s)) ∧ Below w.heap.size w w' := by
  have HI := Lib.hid (fun t w1 (ht : t.size ≤ 1048576) => lastIdx_any t w1 (by omega))
  have HT := Lib.hid (fun t w1 (ht : t.size ≤ 1048576) => hblank_any t w1 (by omega))
  obtain ⟨en, hen⟩ : ∃ en, Lib.lastIndexByte s 10 = en := ⟨_, rfl⟩
  have HS := Lib.hid (show lbR s = if en < 0 then -1 else lbGo s en.toNat from by unfold lbR; rw [hen])
  have hor := last_or s
  have HX := Lib.hid (HI.out s w hs)
  rw [hen] at HX hor
  clear hen
  go_enter Tryd.func57, Tryd.ntmps57
  go_wp2_with fail
  refine HX.out.mono ?_
  rintro r w1 ⟨rfl, rfl⟩
  go_wp2_with fail
  go_loopg [3] (en + 1).toNat (fun g iv wr => Hid (Below w1.heap.size w1 wr) ∧ ((iv = .int .i64 (-1) ∧ Hid (lbR s = -1) ∧ g = 0) ∨ ∃ n : Nat, iv = .int .i64 n ∧ n < s.size ∧ Hid (lbR s = lbGo s n) ∧ g = n + 1))
  case atStart =>
    refine ⟨Lib.hid (Below.refl _ _), ?_⟩
    rcases hor with rfl | ⟨n, hn, rfl⟩
    · exact .inl ⟨rfl, Lib.hid (by rw [HS.out, if_pos (by decide)]), by decide⟩
    · exact .inr ⟨n, rfl, hn, Lib.hid (by rw [HS.out, if_neg (by omega), Int.toNat_natCast]), by omega⟩
  case round =>
    obtain ⟨HB, ⟨rfl, HE, rfl⟩ | ⟨n, rfl, hn, HE, rfl⟩⟩ := hrel
    · go_wp2_with fail
      go_ret
      exact ⟨by rw [HE.out]; rfl, HB.out⟩
    have hn0 : (0 : Int) ≤ (n : Int) := by omega
    have hnI : (n : Int) ≤ (s.size : Int) := by omega
    have hts : (s.extract 0 n).size ≤ 1048576 := Nat.le_trans (ext_size _ _ _) hs
    have htz : (s.extract 0 n).size = n := by rw [ByteArray.size_extract]; omega
    have hor2 := last_or (s.extract 0 n)
    have HX2 := Lib.hid (HI.out (s.extract 0 n) wr hts)
    rcases hor2 with hm | ⟨m, hm1, hm⟩
    · have HE2 := Lib.hid (HE.out.trans (lbGo_neg hm))
      rw [hm] at HX2
      have HT2 := Lib.hid (HT.out (s.extract 0 n) wr hts)
      obtain ⟨bb, hbb⟩ : ∃ bb, blankB (s.extract 0 n) = bb := ⟨_, rfl⟩
      rw [hbb] at HT2 HE2
      clear hbb hm
      go_wp2_with fail
      refine HX2.out.mono ?_
      rintro r w2 ⟨rfl, rfl⟩
      go_wp2_with fail
      refine HT2.out.mono ?_
      rintro r w3 ⟨rfl, hB⟩
      have HB3 := Lib.hid (HB.out.trans (hB.mono HB.out.size))
      clear hB
      cases bb
      case true =>
        go_wp2_with fail
        go_ret
        exact ⟨by rw [HE2.out]; rfl, HB3.out⟩
      case false =>
        go_wp2_with fail
        go_roundg 0
        case measure => omega
        case rel => exact ⟨HB3, .inl ⟨rfl, Lib.hid (by rw [HE2.out]; rfl), rfl⟩⟩
    · rw [htz] at hm1
      have HE2 := Lib.hid (HE.out.trans (lbGo_pos hm hm1))
      rw [hm] at HX2
      have hms : (s.extract (m + 1) n).size ≤ 1048576 := Nat.le_trans (ext_size _ _ _) hs
      have HT2 := Lib.hid (HT.out (s.extract (m + 1) n) wr hms)
      obtain ⟨bb, hbb⟩ : ∃ bb, blankB (s.extract (m + 1) n) = bb := ⟨_, rfl⟩
      rw [hbb] at HT2 HE2
      have htn : ((m : Int) + 1).toNat = m + 1 := by omega
      have hmI : (m : Int) + 1 ≤ (n : Int) := by omega
      have hm0 : (0 : Int) ≤ (m : Int) := by omega
      have hm2 : m + 1 ≤ n := hm1
      clear hbb hm
      go_wp2_with fail
      refine HX2.out.mono ?_
      rintro r w2 ⟨rfl, rfl⟩
      go_wp2_with fail
      refine HT2.out.mono ?_
      rintro r w3 ⟨rfl, hB⟩
      have HB3 := Lib.hid (HB.out.trans (hB.mono HB.out.size))
      clear hB
      cases bb
      case true =>
        go_wp2_with fail
        go_ret
        exact ⟨by rw [HE2.out]; rfl, HB3.out⟩
      case false =>
        go_wp2_with fail
        go_roundg (m + 1)
        case measure => omega
        case rel => exact ⟨HB3, .inr ⟨m, by go_num, by omega, Lib.hid (by rw [HE2.out]; rfl), rfl⟩⟩
end Go.Proofs.YtejogobhnbjpdaaDoor
namespace Go.Proofs.YtejogobhnbjpdaaDoor
set_option linter.unusedVariables false
set_option linter.unusedSimpArgs false
open Go.ChangeShapes Go.WideShapes Go.ChangeAt Go.RowKit

def strV (s : ByteArray) : List Value := [.string s]
theorem strV_len (s : ByteArray) : (strV s).length = 1 := rfl
theorem strV_one : ∀ (x : ByteArray), ∀ u ∈ strV x, u.oneCell' = true := fun x u hu => by
  simp only [strV, List.mem_cons, List.not_mem_nil, or_false] at hu
  rcases hu with rfl
  rfl
theorem eltS : Elt 35 9 1 16 strV := ⟨Tryd.underlying35, by kernel_rfl, info_elt (by kernel_rfl), by decide, strV_one⟩
theorem LF_str (l : List ByteArray) : LF strV l = l.map Value.string := by
  induction l with
  | nil => rfl
  | cons x l ih => show strV x ++ LF strV l = _; rw [ih]; rfl
theorem trimLB_size (s : ByteArray) : (trimLB s).size ≤ s.size := by
  show (Lib.trimLeftS s.data.toList wBetween.data.toList).toArray.size ≤ s.data.size
  unfold Lib.trimLeftS
  have h := (List.dropWhile_sublist (fun c => wBetween.data.toList.contains c) (l := s.data.toList)).length_le
  simpa using h
theorem trimB_size (s : ByteArray) : (trimB s).size ≤ s.size := by
  show (Lib.trimS s.data.toList wAround.data.toList).toArray.size ≤ s.data.size
  unfold Lib.trimS Lib.trimLeftS Lib.trimRightS
  have h := (List.dropWhile_sublist (fun c => wAround.data.toList.contains c) (l := (List.dropWhile (fun c => wAround.data.toList.contains c) s.data.toList.reverse).reverse)).length_le
  have h2 := (List.dropWhile_sublist (fun c => wAround.data.toList.contains c) (l := s.data.toList.reverse)).length_le
  simp at h h2 ⊢
  omega
theorem dirR_size (s p : ByteArray) : (dirR s p).1.size ≤ s.size := by
  have h1 := cutB_size s p
  have h2 := trimB_size (cutB s p)
  unfold dirR
  split
  · split
    · split
      · exact Nat.le_trans h2 h1
      · exact Nat.zero_le _
    · exact Nat.le_trans h2 h1
  · exact Nat.zero_le _
abbrev wPlus : ByteArray := ⟨#[43, 98, 117, 105, 108, 100]⟩
def behind (x : ByteArray) : ByteArray := x.extract 2 x.size
theorem behind_size (x : ByteArray) : (behind x).size ≤ x.size := ext_size _ _ _
def plusD (x : ByteArray) : ByteArray × Bool := dirR (trimLB (behind x)) wPlus
theorem plusD_size (x : ByteArray) : (plusD x).1.size ≤ x.size := Nat.le_trans (dirR_size _ _) (Nat.le_trans (trimLB_size _) (behind_size _))
def plusL (last : Int) (x : Tk) : Option ByteArray := if (plusD x.2.1).2 = true ∧ (x.2.2 : Int) < last then some (⟨#[43]⟩ ++ (plusD x.2.1).1) else none
def joinB (L : List ByteArray) : ByteArray := ⟨(Lib.join (L.map (·.data.toList)) [10]).toArray⟩
def elderR (M : List Tk) (last : Int) : ByteArray := joinB (M.filterMap (plusL last))
theorem join_len : ∀ (n : Nat) (L : List ByteArray), (∀ x ∈ L, x.size ≤ n) → (Lib.join (L.map (·.data.toList)) [10]).length ≤ L.length * (n + 1) := by
  intro n L h
  induction L with
  | nil => simp [Lib.join]
  | cons a L ih =>
    have ha : a.data.toList.length ≤ n := by have := h a List.mem_cons_self; simpa using this
    have h2 := ih (fun x hx => h x (List.mem_cons_of_mem _ hx))
    rw [List.length_cons, Nat.add_mul, Nat.one_mul]
    cases L with
    | nil => simp [Lib.join] at ha ⊢; omega
    | cons b L =>
      simp [Lib.join] at h2 ha ⊢
      omega
theorem join_any (L : List ByteArray) (v : Value) (w : World) (h : LAt 1 strV w v L) (hL : L.length ≤ 4194304) (hs : ∀ x ∈ L, x.size ≤ 1048577) :
    Calls Tryd.prog 85 #[v, .string ⟨#[10]⟩] w fun e w' => e = .returned (.string (joinB L)) ∧ Below w.heap.size w w' := by
  rcases h.2 with ⟨p, cap, rfl, rfl⟩ | ⟨b, off, cap, rfl, hb, hc, hm, hcell⟩
  · refine (Tryd.strings_Join_none p cap ⟨#[10]⟩ w).mono ?_
    rintro e w' ⟨rfl, rfl⟩
    exact ⟨rfl, Below.refl _ _⟩
  · refine (Tryd.strings_Join b off cap L ⟨#[10]⟩ w (fun j x hx => ?_) hb (by omega) hc ?_).mono ?_
    · exact hcell j _ (by rw [LF_str, List.getElem?_map, hx]; rfl)
    · have h1 := join_len 1048577 L hs
      have h2 : L.length * (1048577 + 1) ≤ 4194304 * 1048578 := Nat.mul_le_mul hL (Nat.le_refl _)
      show (Lib.join (L.map (·.data.toList)) [10]).length ≤ _
      omega
    · rintro e w' ⟨rfl, hB⟩
      exact ⟨rfl, hB⟩
set_option maxRecDepth 100000 in
set_option maxHeartbeats 2000000 in
theorem elder_any (M : List Tk) (v : Value) (last : Int) (w : World) (h : LAt 3 tkV w v M) (hM : M.length ≤ 4194304) (hP : ∀ x ∈ M, 2 ≤ x.2.1.size ∧ x.2.1.size ≤ 1048576) :
    Calls Tryd.prog 56 #[v, .int .i64 last] w fun e w' => e = .returned (.string (elderR M last)) ∧ Below w.heap.size w w' := by
  obtain ⟨pp, cap, rfl, hp⟩ := h.shape
  have HV := Lib.hid h
  have Hp := Lib.hid hp
  have HP := Lib.hid hP
  obtain ⟨len, hl⟩ : ∃ len, len = M.length := ⟨_, rfl⟩
  rw [← hl] at HV Hp hM ⊢
  have Hl := Lib.hid hl
  clear h hp hl hP
  go_enter Tryd.func56, Tryd.ntmps56
  go_wp2_with fail
  go_loopg [5, 12] len (fun g vo iv wr => ∃ (k : Nat) (L : List ByteArray), k + g = len ∧ iv = .int .i64 k ∧ Hid (wr.ownsRow w.heap.size 9 1 vo L.length (LF strV L)) ∧ Hid (L = (M.take k).filterMap (plusL last)) ∧ L.length ≤ k ∧ Hid (∀ x ∈ L, x.size ≤ 1048577) ∧ Hid (Below w.heap.size w wr))
  case atStart => exact ⟨0, [], by omega, rfl, Lib.hid ⟨rfl, .inl ⟨rfl, rfl⟩⟩, Lib.hid rfl, by simp, Lib.hid (by simp), Lib.hid (Below.refl _ _)⟩
  case round =>
    obtain ⟨i, L, hig, rfl, HO, HL, hLk, HS, HB⟩ := hrel
    by_cases hlt : i < len
    case neg =>
      have hnI : ¬ (i : Int) < (len : Int) := by omega
      have HL2 := Lib.hid (show L = M.filterMap (plusL last) from by rw [HL.out, List.take_of_length_le (by rw [← Hl.out]; omega)])
      have HJ := Lib.hid (fun v w1 (hv : LAt 1 strV w1 v L) => join_any L v w1 hv (by omega) HS.out)
      have HLa := Lib.hid (LAt.own (fun y _ => strV_len y) HO.out)
      go_wp2_with fail
      refine (HJ.out _ _ HLa.out).mono ?_
      rintro r w2 ⟨rfl, hB⟩
      have HB2 := Lib.hid (HB.out.trans (hB.mono HB.out.size))
      clear hB
      go_wp2_with fail
      go_ret
      exact ⟨by unfold elderR; rw [← HL2.out]; rfl, HB2.out⟩
    have hltI : (i : Int) < (len : Int) := by omega
    have hiM : i < M.length := by have := Hl.out; omega
    obtain ⟨g1, o1, rfl⟩ := Hp.out (by omega)
    obtain ⟨⟨k, x, p⟩, hx⟩ : ∃ t, M[i]? = some t := ⟨_, List.getElem?_eq_getElem hiM⟩
    have hps := HP.out _ (List.mem_of_getElem? hx)
    have hz2 : 2 ≤ x.size := hps.1
    have hz3 : x.size ≤ 1048576 := hps.2
    have hzI : (2 : Int) ≤ (x.size : Int) := by omega
    obtain ⟨hg1, e0, e1, e2⟩ := HV.out.cells hx
    have f0 := (HB.out.cell (p := ⟨g1, o1 + i * 3, none⟩) hg1).trans e0
    have f1 := (HB.out.cell (p := ⟨g1, o1 + i * 3 + 1, none⟩) hg1).trans e1
    have f2 := (HB.out.cell (p := ⟨g1, o1 + i * 3 + 2, none⟩) hg1).trans e2
    have hf : (M.take (i + 1)).filterMap (plusL last) = L ++ (plusL last (k, x, p)).toList := by
      rw [List.take_add_one, hx, List.filterMap_append, ← HL.out, Option.toList_some]
      congr 1
    have hpl : plusL last (k, x, p) = if (plusD x).2 = true ∧ (p : Int) < last then some (⟨#[43]⟩ ++ (plusD x).1) else none := rfl
    rw [hpl] at hf
    have hba := (Below.refl wr.heap.size wr).alloc (Nat.le_refl _) (.cells #[.int .i64 k, .string x, .int .i64 p] 31)
    have HBa := Lib.hid (HB.out.trans (hba.mono HB.out.size))
    have HOa := Lib.hid (gen_own_below HO.out hba)
    have hnew := heap_alloc_new wr (.cells #[.int .i64 k, .string x, .int .i64 p] 31)
    have Hnew := Lib.hid hnew
    have HT := Lib.hid (fun w1 => trimLeft_any (x.extract 2 x.size) w1)
    have hbz := Nat.le_trans (trimLB_size (x.extract 2 x.size)) (Nat.le_trans (behind_size x) hz3)
    have HD := Lib.hid (fun w1 => directive_any (trimLB (x.extract 2 x.size)) wPlus w1 (by omega))
    have hdz := plusD_size x
    change Hid (∀ w1, Calls Tryd.prog 55 #[.string (trimLB (x.extract 2 x.size)), .string wPlus] w1 fun e w' => e = .returned (.tuple #[.string (plusD x).1, .bool (plusD x).2]) ∧ Below w1.heap.size w1 w') at HD
    generalize (plusD x).1 = d at *
    generalize (plusD x).2 = db at *
    generalize trimLB (x.extract 2 x.size) = tl at *
    clear e0 e1 e2 hx hba hnew hpl hps hbz
    have hdz2 : d.size ≤ 1048576 := Nat.le_trans hdz hz3
    go_wp2_with fail
    generalize wr.alloc (.cells #[.int .i64 k, .string x, .int .i64 p] 31) = w2 at *
    refine (HT.out _).mono ?_
    rintro r w3 ⟨rfl, hB⟩
    have HB3 := Lib.hid (HBa.out.trans (hB.mono HBa.out.size))
    have HO3 := Lib.hid (gen_own_below HOa.out hB)
    have Hn3 := Lib.hid ((hB.block wr.heap.size (lt_of_block Hnew.out)).trans Hnew.out)
    clear hB HBa HOa Hnew
    go_wp2_with fail
    refine (HD.out _).mono ?_
    rintro r w4 ⟨rfl, hB⟩
    have HB4 := Lib.hid (HB3.out.trans (hB.mono HB3.out.size))
    have HO4 := Lib.hid (gen_own_below HO3.out hB)
    have hn4 := (hB.block wr.heap.size (lt_of_block Hn3.out)).trans Hn3.out
    have c2 := block_cell hn4 2
    clear hB HB3 HO3 Hn3 hn4
    cases db
    case false =>
      have Hf := Lib.hid (hf.trans (by rw [if_neg (fun h => Bool.noConfusion h.1), Option.toList_none, List.append_nil]))
      clear hf
      go_wp2_with fail
      go_roundg (gk - 1)
      case measure => omega
      case rel => exact ⟨i + 1, L, by omega, by go_num, HO4, Lib.hid Hf.out.symm, by omega, HS, HB4⟩
    by_cases hpl2 : (p : Int) < last
    case neg =>
      have Hf := Lib.hid (hf.trans (by rw [if_neg (fun h => hpl2 h.2), Option.toList_none, List.append_nil]))
      clear hf
      go_wp2_with fail
      go_roundg (gk - 1)
      case measure => omega
      case rel => exact ⟨i + 1, L, by omega, by go_num, HO4, Lib.hid Hf.out.symm, by omega, HS, HB4⟩
    have Hf := Lib.hid (hf.trans (by rw [if_pos ⟨rfl, hpl2⟩, Option.toList_some]))
    have z1 : (⟨#[43]⟩ : ByteArray).size = 1 := rfl
    clear hf
    go_wp2_with (first | (at_builtin; go_must (refine wpList_append_gen eltS rfl (.tmp 31) (.tmp 34) rfl rfl w.heap.size _ L rfl (gen_own_below HO4.out ((Below.refl _ _).alloc (Nat.le_refl _) _)) _ [⟨#[43]⟩ ++ d] (LAt.block rfl rfl (heap_alloc_new _ _)) rfl (by simp only [List.length_cons, List.length_nil]; omega) (by unfold maxLen; simp only [List.length_cons, List.length_nil]; omega) (by have := HB4.out.size; simp; omega) ?_); intro va wa hoa hga))
    have hBb := (HB4.out.alloc HB4.out.size (.cells #[.string (⟨#[43]⟩ ++ d)] 9)).grown hga (by have := HB4.out.size; simp at this ⊢; omega) (fun k hk => (HO4.out.lt k hk).1)
    have HBb := Lib.hid hBb
    have Hoa := Lib.hid hoa
    have HS2 := Lib.hid (show ∀ x ∈ L ++ [⟨#[43]⟩ ++ d], x.size ≤ 1048577 from fun x hx => by
      rcases List.mem_append.1 hx with h | h
      · exact HS.out x h
      · rw [List.mem_singleton.1 h, ByteArray.size_append, z1]; omega)
    clear hBb hoa hga
    go_wp2_with fail
    go_roundg (gk - 1)
    case measure => omega
    case rel => exact ⟨i + 1, L ++ [⟨#[43]⟩ ++ d], by omega, by go_num, Hoa, Lib.hid Hf.out.symm, by simp; omega, HS2, HBb⟩
end Go.Proofs.YtejogobhnbjpdaaDoor
