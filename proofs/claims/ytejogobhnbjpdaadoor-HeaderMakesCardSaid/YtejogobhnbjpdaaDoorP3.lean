/- Walks: the constraint; Walks: one pattern; Walks: a directive's patterns; Walks: the patterns of the comments behind the clause. -/
import Derived.Test.YtejogobhnbjpdaaDoorP2
import Derived.Lib.IndexLaws
import Derived.OwnWalk
namespace Go.Proofs.YtejogobhnbjpdaaDoor
set_option linter.unusedVariables false
set_option linter.unusedSimpArgs false
open Go.ChangeShapes Go.WideShapes Go.ChangeAt Go.RowKit

abbrev wBuild : ByteArray := ⟨#[103, 111, 58, 98, 117, 105, 108, 100]⟩
def buildD (x : ByteArray) : ByteArray × Bool := dirR (behind x) wBuild
theorem buildD_size (x : ByteArray) : (buildD x).1.size ≤ x.size := Nat.le_trans (dirR_size _ _) (behind_size _)
/-- The constraint of the newer form, behind one that was met; or where a second one stands. -/
def conGo : List Tk → ByteArray → Option Nat × ByteArray
  | [], b => (none, b)
  | x :: M, b => if (buildD x.2.1).2 = false then conGo M b else if b ≠ ⟨#[]⟩ then (some x.2.2, ⟨#[]⟩) else conGo M (if (buildD x.2.1).1 = ⟨#[]⟩ then ⟨#[32]⟩ else (buildD x.2.1).1)
def conR (s : ByteArray) (M : List Tk) (first : Nat) : ByteArray × Int :=
  match conGo M ⟨#[]⟩ with
  | (some p, _) => (⟨#[]⟩, p)
  | (none, b) => if b = ⟨#[]⟩ then (elderR M (lbR (s.extract 0 first)), -1) else (b, -1)
theorem conGo_no {x : Tk} {M : List Tk} {b : ByteArray} (h : (buildD x.2.1).2 = false) : conGo (x :: M) b = conGo M b := by
  rw [conGo, if_pos h]
theorem conGo_two {x : Tk} {M : List Tk} {b : ByteArray} (h : (buildD x.2.1).2 = true) (hb : b ≠ ⟨#[]⟩) : conGo (x :: M) b = (some x.2.2, ⟨#[]⟩) := by
  rw [conGo, if_neg (by rw [h]; exact Bool.noConfusion), if_pos hb]
theorem conGo_new {x : Tk} {M : List Tk} (h : (buildD x.2.1).2 = true) : conGo (x :: M) ⟨#[]⟩ = conGo M (if (buildD x.2.1).1 = ⟨#[]⟩ then ⟨#[32]⟩ else (buildD x.2.1).1) := by
  rw [conGo, if_neg (by rw [h]; exact Bool.noConfusion), if_neg (fun h => h rfl)]
theorem conR_two {s : ByteArray} {M : List Tk} {first p : Nat} {b : ByteArray} (h : conGo M ⟨#[]⟩ = (some p, b)) : conR s M first = (⟨#[]⟩, (p : Int)) := by
  unfold conR; rw [h]
theorem conR_one {s : ByteArray} {M : List Tk} {first : Nat} {b : ByteArray} (h : conGo M ⟨#[]⟩ = (none, b)) : conR s M first = if b = ⟨#[]⟩ then (elderR M (lbR (s.extract 0 first)), -1) else (b, -1) := by
  unfold conR; rw [h]
set_option maxRecDepth 100000 in
set_option maxHeartbeats 2000000 in
theorem con_any (s : ByteArray) (M : List Tk) (v : Value) (first : Nat) (w : World) (h : LAt 3 tkV w v M) (hM : M.length ≤ 4194304) (hP : ∀ x ∈ M, 2 ≤ x.2.1.size ∧ x.2.1.size ≤ 1048576) (hs : s.size ≤ 1048576) (hfs : first ≤ s.size) :
    Calls Tryd.prog 34 #[.string s, v, .int .i64 first] w fun e w' => e = .returned (.tuple #[.string (conR s M first).1, .int .i64 (conR s M first).2]) ∧ Below w.heap.size w w' := by
  have HE := Lib.hid (fun last w1 (h1 : Below w.heap.size w w1) => elder_any M v last w1 (h.below h1) hM hP)
  have HLB := Lib.hid (fun w1 => lastBlank_any (s.extract 0 first) w1 (Nat.le_trans (ext_size _ _ _) hs))
  obtain ⟨pp, cap, rfl, hp⟩ := h.shape
  have HV := Lib.hid h
  have Hp := Lib.hid hp
  have HP := Lib.hid hP
  obtain ⟨len, hl⟩ : ∃ len, len = M.length := ⟨_, rfl⟩
  rw [← hl] at HV Hp hM HE ⊢
  have Hl := Lib.hid hl
  have hfI : (first : Int) ≤ (s.size : Int) := by omega
  clear h hp hl hP
  go_enter Tryd.func34, Tryd.ntmps34
  go_wp2_with fail
  go_loopg [8, 15] len (fun g bv iv wr => ∃ (k : Nat) (b : ByteArray), k + g = len ∧ iv = .int .i64 k ∧ bv = .string b ∧ b.size ≤ 1048576 ∧ Hid (conGo M ⟨#[]⟩ = conGo (M.drop k) b) ∧ Hid (Below w.heap.size w wr))
  case atStart => exact ⟨0, ⟨#[]⟩, by omega, rfl, rfl, Nat.zero_le _, Lib.hid (by rw [List.drop_zero]), Lib.hid (Below.refl _ _)⟩
  case round =>
    obtain ⟨i, b, hig, rfl, rfl, hbz, HC, HB⟩ := hrel
    have hbe : (b.toList == ([] : List UInt8)) = decide (b = ⟨#[]⟩) := str_lit b #[]
    by_cases hlt : i < len
    case neg =>
      have hnI : ¬ (i : Int) < (len : Int) := by omega
      have hC2 : conGo M ⟨#[]⟩ = (none, b) := by rw [HC.out, List.drop_eq_nil_of_le (by rw [← Hl.out]; omega)]; rfl
      have HR := Lib.hid (conR_one (s := s) (first := first) hC2)
      clear hC2 HC
      by_cases hb : b = ⟨#[]⟩
      · rw [decide_eq_true hb] at hbe
        have HR2 := Lib.hid (HR.out.trans (if_pos hb))
        clear hb HR
        go_wp2_with fail
        refine (HLB.out _).mono ?_
        rintro r w2 ⟨rfl, hB⟩
        have HB2 := Lib.hid (HB.out.trans (hB.mono HB.out.size))
        clear hB
        go_wp2_with fail
        refine (HE.out _ _ HB2.out).mono ?_
        rintro r w3 ⟨rfl, hB⟩
        have HB3 := Lib.hid (HB2.out.trans (hB.mono HB2.out.size))
        clear hB
        go_wp2_with fail
        go_ret2
        exact ⟨by rw [HR2.out]; rfl, HB3.out⟩
      · rw [decide_eq_false hb] at hbe
        have HR2 := Lib.hid (HR.out.trans (if_neg hb))
        clear hb HR
        go_wp2_with fail
        go_ret2
        exact ⟨by rw [HR2.out]; rfl, HB.out⟩
    have hltI : (i : Int) < (len : Int) := by omega
    have hiM : i < M.length := by have := Hl.out; omega
    obtain ⟨g1, o1, rfl⟩ := Hp.out (by omega)
    obtain ⟨⟨k, x, p⟩, hx⟩ : ∃ t, M[i]? = some t := ⟨_, List.getElem?_eq_getElem hiM⟩
    have hps := HP.out _ (List.mem_of_getElem? hx)
    have hz2 : 2 ≤ x.size := hps.1
    have hz3 : x.size ≤ 1048576 := hps.2
    have hzI : (2 : Int) ≤ (x.size : Int) := by omega
    obtain ⟨hg1, e0, e1, e2⟩ := HV.out.cells hx
    have f0 := (HB.out.cell (p := ⟨g1, o1 + i * 3, none⟩) hg1).trans e0
    have f1 := (HB.out.cell (p := ⟨g1, o1 + i * 3 + 1, none⟩) hg1).trans e1
    have f2 := (HB.out.cell (p := ⟨g1, o1 + i * 3 + 2, none⟩) hg1).trans e2
    have hdr : M.drop i = (k, x, p) :: M.drop (i + 1) := by
      rw [List.drop_eq_getElem_cons hiM]
      congr 1
      exact (List.getElem?_eq_some_iff.1 hx).2
    rw [hdr] at HC
    have hba := (Below.refl wr.heap.size wr).alloc (Nat.le_refl _) (.cells #[.int .i64 k, .string x, .int .i64 p] 31)
    have HBa := Lib.hid (HB.out.trans (hba.mono HB.out.size))
    have Hnew := Lib.hid (heap_alloc_new wr (.cells #[.int .i64 k, .string x, .int .i64 p] 31))
    have hbz2 := behind_size x
    have HD := Lib.hid (fun w1 => directive_any (x.extract 2 x.size) wBuild w1 (Nat.le_trans hbz2 (by omega)))
    have hdz := buildD_size x
    change Hid (∀ w1, Calls Tryd.prog 55 #[.string (x.extract 2 x.size), .string wBuild] w1 fun e w' => e = .returned (.tuple #[.string (buildD x).1, .bool (buildD x).2]) ∧ Below w1.heap.size w1 w') at HD
    obtain ⟨db, hdb⟩ : ∃ db, (buildD x).2 = db := ⟨_, rfl⟩
    rw [hdb] at HD
    have HC0 := Lib.hid (fun h => HC.out.trans (conGo_no (x := (k, x, p)) h))
    have HC1 := Lib.hid (fun h hb => HC.out.trans (conGo_two (x := (k, x, p)) h hb))
    have HC2 : Hid ((buildD x).2 = true → b = ⟨#[]⟩ → conGo M ⟨#[]⟩ = conGo (M.drop (i + 1)) (if (buildD x).1 = ⟨#[]⟩ then ⟨#[32]⟩ else (buildD x).1)) := Lib.hid (fun h hb => by
      have h1 := HC.out
      rw [hb] at h1
      exact h1.trans (conGo_new (x := (k, x, p)) h))
    change Hid ((buildD x).2 = false → _) at HC0
    change Hid ((buildD x).2 = true → _) at HC1
    rw [hdb] at HC0 HC1 HC2
    clear hdb
    generalize (buildD x).1 = d at *
    have hdz2 : d.size ≤ 1048576 := Nat.le_trans hdz hz3
    clear e0 e1 e2 hx hba hdr hps hbz2 HC hdz
    go_wp2_with fail
    generalize wr.alloc (.cells #[.int .i64 k, .string x, .int .i64 p] 31) = w2 at *
    refine (HD.out _).mono ?_
    rintro r w4 ⟨rfl, hB⟩
    have HB4 := Lib.hid (HBa.out.trans (hB.mono HBa.out.size))
    have hn4 := (hB.block wr.heap.size (lt_of_block Hnew.out)).trans Hnew.out
    have c2 := block_cell hn4 2
    clear hB HBa Hnew hn4
    cases db
    case false =>
      have HF := Lib.hid (HC0.out rfl)
      clear HC0 HC1 HC2
      go_wp2_with fail
      go_roundg (gk - 1)
      case measure => omega
      case rel => exact ⟨i + 1, b, by omega, by go_num, rfl, hbz, HF, HB4⟩
    by_cases hb : b = ⟨#[]⟩
    case neg =>
      have HF := Lib.hid (conR_two (s := s) (first := first) (HC1.out rfl hb))
      rw [decide_eq_false hb] at hbe
      have hbn : (b.toList != ([] : List UInt8)) = true := by rw [bne, hbe]; rfl
      clear HC0 HC1 HC2 hb
      go_wp2_with fail
      go_region
      all_goals (try go_wp2_with fail)
      all_goals go_ret2
      all_goals exact ⟨by rw [HF.out]; rfl, HB4.out.drew⟩
    have HF := Lib.hid (HC2.out rfl hb)
    rw [decide_eq_true hb] at hbe
    have hbn : (b.toList != ([] : List UInt8)) = false := by rw [bne, hbe]; rfl
    have hde : (d.toList == ([] : List UInt8)) = decide (d = ⟨#[]⟩) := str_lit d #[]
    clear HC0 HC1 HC2 hb
    by_cases hd : d = ⟨#[]⟩
    · rw [decide_eq_true hd] at hde
      have HF2 := Lib.hid (show conGo M ⟨#[]⟩ = conGo (M.drop (i + 1)) ⟨#[32]⟩ from by rw [HF.out, if_pos hd])
      clear HF hd
      go_wp2_with fail
      go_roundg (gk - 1)
      case measure => omega
      case rel => exact ⟨i + 1, _, by omega, by go_num, rfl, by decide, HF2, HB4⟩
    · rw [decide_eq_false hd] at hde
      have HF2 := Lib.hid (show conGo M ⟨#[]⟩ = conGo (M.drop (i + 1)) d from by rw [HF.out, if_neg hd])
      clear HF hd
      go_wp2_with fail
      go_roundg (gk - 1)
      case measure => omega
      case rel => exact ⟨i + 1, _, by omega, by go_num, rfl, hdz2, HF2, HB4⟩
end Go.Proofs.YtejogobhnbjpdaaDoor
namespace Go.Proofs.YtejogobhnbjpdaaDoor
set_option linter.unusedVariables false
set_option linter.unusedSimpArgs false
open Go.ChangeShapes Go.WideShapes Go.ChangeAt Go.RowKit

theorem ib_or (l : List UInt8) (c : UInt8) : Lib.indexByte l c = -1 ∨ ∃ n : Nat, n < l.length ∧ Lib.indexByte l c = n := by
  have h := Lib.indexByte_ge l c
  rcases (by omega : Lib.indexByte l c = -1 ∨ 0 ≤ Lib.indexByte l c) with h | h
  · exact .inl h
  · obtain ⟨n, hn⟩ := Int.eq_ofNat_of_zero_le h
    exact .inr ⟨n, (List.getElem?_eq_some_iff.1 (Lib.indexByte_some hn).1).1, hn⟩
theorem ia_or (cs : List UInt8) : ∀ (l : List UInt8), Lib.indexAny l cs = -1 ∨ ∃ n : Nat, n < l.length ∧ Lib.indexAny l cs = n
  | [] => .inl rfl
  | b :: l => by
    unfold Lib.indexAny
    split
    · exact .inr ⟨0, by simp, rfl⟩
    · rcases ia_or cs l with h | ⟨n, hn, h⟩
      · exact .inl (by rw [h]; rfl)
      · refine .inr ⟨n + 1, by simpa using hn, ?_⟩
        rw [h, if_neg (by rw [beq_iff_eq]; omega)]
        rfl
/-- A text, cut around a sign. -/
def cutR (s : ByteArray) (c : UInt8) : ByteArray × ByteArray × Bool :=
  if Lib.indexByte s.data.toList c < 0 then (s, ⟨#[]⟩, false)
  else (s.extract 0 (Lib.indexByte s.data.toList c).toNat, s.extract ((Lib.indexByte s.data.toList c).toNat + 1) s.size, true)
theorem cut116_any (s : ByteArray) (c : UInt8) (w : World) (hs : s.size ≤ 1048576) : Calls Tryd.prog 116 #[.string s, .string ⟨#[c]⟩] w fun e w' => e = .returned (.tuple #[.string (cutR s c).1, .string (cutR s c).2.1, .bool (cutR s c).2.2]) ∧ Below w.heap.size w w' := by
  have HI := Lib.hid (fun w1 => Tryd.stringslite_Index_one s c w1)
  have HC := Lib.hid (show cutR s c = if Lib.indexByte s.data.toList c < 0 then (s, ⟨#[]⟩, false)
  else (s.extract 0 (Lib.indexByte s.data.toList c).toNat, s.extract ((Lib.indexByte s.data.toList c).toNat + 1) s.size, true) from rfl)
  have hor := ib_or s.data.toList c
  rw [show s.data.toList.length = s.size by simp] at hor
  generalize Lib.indexByte s.data.toList c = ix at *
  have z1 : (⟨#[c]⟩ : ByteArray).size = 1 := rfl
  rcases hor with rfl | ⟨n, hn, rfl⟩
  · rw [if_pos (by decide)] at HC
    rw [HC.out]
    go_enter Tryd.func116, Tryd.ntmps116
    go_wp2_with fail
    refine (HI.out _).mono ?_
    rintro r w1 ⟨rfl, rfl⟩
    go_wp2_with fail
    go_ret3
    exact ⟨rfl, Below.refl _ _⟩
  · rw [if_neg (by omega), Int.toNat_natCast] at HC
    rw [HC.out]
    have hn0 : (0 : Int) ≤ (n : Int) := by omega
    have hnI : (n : Int) ≤ (s.size : Int) := by omega
    have hnI1 : (n : Int) + 1 ≤ (s.size : Int) := by omega
    have htn : ((n : Int) + 1).toNat = n + 1 := by omega
    have hn1 : n + 1 ≤ s.size := hn
    clear HC
    go_enter Tryd.func116, Tryd.ntmps116
    go_wp2_with fail
    refine (HI.out _).mono ?_
    rintro r w1 ⟨rfl, rfl⟩
    go_wp2_with fail
    go_region
    all_goals (try go_wp2_with fail)
    all_goals go_ret3
    all_goals exact ⟨rfl, (Below.refl _ _).drew⟩
theorem cut_any (s : ByteArray) (c : UInt8) (w : World) (hs : s.size ≤ 1048576) : Calls Tryd.prog 105 #[.string s, .string ⟨#[c]⟩] w fun e w' => e = .returned (.tuple #[.string (cutR s c).1, .string (cutR s c).2.1, .bool (cutR s c).2.2]) ∧ Below w.heap.size w w' := by
  have HI := Lib.hid (fun w1 => cut116_any s c w1 hs)
  generalize cutR s c = r at *
  obtain ⟨a, b, ok⟩ := r
  go_enter Tryd.func105, Tryd.ntmps105
  go_wp2_with fail
  refine (HI.out _).mono ?_
  rintro r w1 ⟨rfl, hB⟩
  have HB := Lib.hid hB
  clear hB
  go_wp2_with fail
  go_ret3
  exact ⟨rfl, HB.out⟩
theorem ext_all (s : ByteArray) : s.extract 0 s.size = s := by simp
theorem ext_none (s : ByteArray) : s.extract s.size s.size = ByteArray.empty := by simp
def IdxC : Prop := ∀ (s : ByteArray) (w : World), s.size ≤ 1048576 → Calls Tryd.prog 104 #[.string s, .string wBetween] w fun e w' => e = .returned (.int .i64 (Lib.indexAny s.data.toList [32, 9])) ∧ Below w.heap.size w w'
/-- Where a word ends. -/
def wordN (s : ByteArray) : Nat := if Lib.indexAny s.data.toList [32, 9] < 0 then s.size else (Lib.indexAny s.data.toList [32, 9]).toNat
def startsSp (s : ByteArray) : Bool := if h : 0 < s.size then decide (s[0] = 32) || decide (s[0] = 9) else true
/-- The pattern with which a text begins, and what stands behind; false: its quote isn't closed. -/
def patR (s : ByteArray) (c : UInt8) : ByteArray × ByteArray × Bool :=
  if c ≠ 34 ∧ c ≠ 96 then (s.extract 0 (wordN s), s.extract (wordN s) s.size, true)
  else if (cutR (s.extract 1 s.size) c).2.2 = true ∧ startsSp (cutR (s.extract 1 s.size) c).2.1 = true then ((cutR (s.extract 1 s.size) c).1, (cutR (s.extract 1 s.size) c).2.1, true)
  else (⟨#[]⟩, ⟨#[]⟩, false)
theorem u8_eqb (a b : UInt8) : ((a.toNat : Int) == (b.toNat : Int)) = decide (a = b) := by
  by_cases h : a = b
  · subst h; simp
  · rw [decide_eq_false h]
    exact beq_eq_false_iff_ne.2 (fun e => h (UInt8.toNat_inj.1 (by omega)))
set_option maxRecDepth 100000 in
set_option maxHeartbeats 2000000 in
theorem pattern_any (HIX : IdxC) (s : ByteArray) (w : World) (hs : s.size ≤ 1048576) (h0 : 0 < s.size) :
    Calls Tryd.prog 86 #[.string s] w fun e w' => e = .returned (.tuple #[.string (patR s s[0]).1, .string (patR s s[0]).2.1, .bool (patR s s[0]).2.2]) ∧ Below w.heap.size w w' := by
  have hI0 : (0 : Int) < (s.size : Int) := by omega
  have h34 : ((s[0].toNat : Int) == 34) = decide (s[0] = 34) := u8_eqb s[0] 34
  have h96 : ((s[0].toNat : Int) == 96) = decide (s[0] = 96) := u8_eqb s[0] 96
  have hone := one_is s h0
  have HX := Lib.hid (fun w1 => HIX s w1 hs)
  have HC := Lib.hid (fun w1 => cut_any (s.extract 1 s.size) s[0] w1 (Nat.le_trans (ext_size _ _ _) hs))
  rw [← hone] at HC
  have HP := Lib.hid (show patR s s[0] = _ from rfl)
  by_cases hq : s[0] ≠ 34 ∧ s[0] ≠ 96
  case pos =>
    have HP2 := Lib.hid (show patR s s[0] = (s.extract 0 (wordN s), s.extract (wordN s) s.size, true) from by unfold patR; rw [if_pos hq])
    have HW := Lib.hid (show wordN s = if Lib.indexAny s.data.toList [32, 9] < 0 then s.size else (Lib.indexAny s.data.toList [32, 9]).toNat from rfl)
    have hor := ia_or [32, 9] s.data.toList
    rw [show s.data.toList.length = s.size by simp] at hor
    rw [decide_eq_false hq.1] at h34
    rw [decide_eq_false hq.2] at h96
    have h34n : ((s[0].toNat : Int) != 34) = true := by rw [bne, h34]; rfl
    have h96n : ((s[0].toNat : Int) != 96) = true := by rw [bne, h96]; rfl
    generalize Lib.indexAny s.data.toList [32, 9] = ix at *
    rw [HP2.out]
    clear HP HP2 HC hone hq
    rcases hor with rfl | ⟨n, hn, rfl⟩
    · rw [if_pos (by decide)] at HW
      rw [HW.out, ext_all, ext_none]
      clear HW
      go_enter Tryd.func86, Tryd.ntmps86
      go_wp2_with fail
      refine (HX.out _).mono ?_
      rintro r w1 ⟨rfl, hB⟩
      have HB := Lib.hid hB
      clear hB
      go_wp2_with fail
      go_region
      all_goals (try go_wp2_with fail)
      all_goals go_ret3
      all_goals exact ⟨rfl, HB.out.drew⟩
    · rw [if_neg (by omega), Int.toNat_natCast] at HW
      rw [HW.out]
      have hn0 : (0 : Int) ≤ (n : Int) := by omega
      have hnI : (n : Int) ≤ (s.size : Int) := by omega
      have hn1 : n ≤ s.size := by omega
      clear HW
      go_enter Tryd.func86, Tryd.ntmps86
      go_wp2_with fail
      refine (HX.out _).mono ?_
      rintro r w1 ⟨rfl, hB⟩
      have HB := Lib.hid hB
      clear hB
      go_wp2_with fail
      go_region
      all_goals (try go_wp2_with fail)
      all_goals go_ret3
      all_goals exact ⟨rfl, HB.out.drew⟩
  have HP2 := Lib.hid (show patR s s[0] = if (cutR (s.extract 1 s.size) s[0]).2.2 = true ∧ startsSp (cutR (s.extract 1 s.size) s[0]).2.1 = true then ((cutR (s.extract 1 s.size) s[0]).1, (cutR (s.extract 1 s.size) s[0]).2.1, true)
    else (⟨#[]⟩, ⟨#[]⟩, false) from by unfold patR; rw [if_neg hq])
  generalize cutR (s.extract 1 s.size) s[0] = r at *
  obtain ⟨one, rest, ok⟩ := r
  have hq2 : s[0] = 34 ∨ (s[0] ≠ 34 ∧ s[0] = 96) := by
    by_cases h1 : s[0] = 34
    · exact .inl h1
    · by_cases h2 : s[0] = 96
      · exact .inr ⟨h1, h2⟩
      · exact absurd ⟨h1, h2⟩ hq
  have HQ := Lib.hid hq2
  have hT : Hid (∀ w1, Below w.heap.size w w1 → Calls Tryd.prog 105 #[.string (s.extract 1 s.size), .string (s.extract 0 1)] w1 fun e w' => e = .returned (.tuple #[.string one, .string rest, .bool ok]) ∧ Below w.heap.size w w') :=
    Lib.hid (fun w1 h1 => (HC.out w1).mono (fun e w' hh => ⟨hh.1, h1.trans (hh.2.mono h1.size)⟩))
  have hpe : (rest.toList == ([] : List UInt8)) = decide (rest = ⟨#[]⟩) := str_lit rest #[]
  have HO : Hid (∀ (h : 0 < rest.size) w1, Calls Tryd.prog 83 #[.string wBetween, .string (rest.extract 0 1)] w1 fun e w' => e = .returned (.bool (startsSp rest)) ∧ w' = w1) := Lib.hid (fun h w1 => by
    have h1 := Tryd.strings_Contains_one wBetween rest[0] w1
    rw [between_is, ← one_is rest h] at h1
    unfold startsSp
    rw [dif_pos h]
    exact h1)
  have HE0 : Hid (rest = ⟨#[]⟩ → startsSp rest = true) := Lib.hid (fun h => by subst h; rfl)
  generalize startsSp rest = sp at *
  rw [HP2.out]
  clear HP HP2 HC hone hq hq2
  show Calls _ _ _ _ fun e w' => e = .returned (.tuple #[.string (if ok = true ∧ sp = true then (one, rest, true) else ((⟨#[]⟩ : ByteArray), (⟨#[]⟩ : ByteArray), false)).1, .string (if ok = true ∧ sp = true then (one, rest, true) else ((⟨#[]⟩ : ByteArray), (⟨#[]⟩ : ByteArray), false)).2.1, .bool (if ok = true ∧ sp = true then (one, rest, true) else ((⟨#[]⟩ : ByteArray), (⟨#[]⟩ : ByteArray), false)).2.2]) ∧ _
  rcases HQ.out with hq | ⟨hq1, hq⟩
  · rw [decide_eq_true hq] at h34
    have h34n : ((s[0].toNat : Int) != 34) = false := by rw [bne, h34]; rfl
    clear hq h96
    cases ok
    case false =>
      rw [if_neg (fun h => Bool.noConfusion h.1)]
      go_enter Tryd.func86, Tryd.ntmps86
      go_wp2_with fail
      refine wp_region_class (Below w.heap.size w) (by kernel_rfl) (by kernel_rfl) (Below.refl _ _).drew ?_
      repeat (go_big_quiet_step (first | (intro hh; with_reducible exact hT.out _ hh) | (intro _; rfl)))
      refine wpQuiet_nil ?_
      intro wq hBq
      have HB := Lib.hid hBq
      clear hBq
      go_wp2_with fail
      go_ret3
      exact ⟨rfl, HB.out⟩
    by_cases hr : rest = ⟨#[]⟩
    case pos =>
      have hsp := HE0.out hr
      rw [if_pos ⟨rfl, hsp⟩]
      rw [decide_eq_true hr] at hpe
      have hpn : (rest.toList != ([] : List UInt8)) = false := by rw [bne, hpe]; rfl
      clear hr hsp
      go_enter Tryd.func86, Tryd.ntmps86
      go_wp2_with fail
      refine wp_region_class (Below w.heap.size w) (by kernel_rfl) (by kernel_rfl) (Below.refl _ _).drew ?_
      repeat (go_big_quiet_step (first | (intro hh; with_reducible exact hT.out _ hh) | (intro _; rfl)))
      refine wpQuiet_nil ?_
      intro wq hBq
      have HB := Lib.hid hBq
      clear hBq
      go_wp2_with fail
      go_ret3
      exact ⟨rfl, HB.out⟩
    have hr0 : 0 < rest.size := Nat.pos_of_ne_zero (fun h => hr (ByteArray.ext (Array.eq_empty_of_size_eq_zero h)))
    have hrI : (1 : Int) ≤ (rest.size : Int) := by omega
    have HO2 := Lib.hid (fun w1 => HO.out hr0 w1)
    rw [decide_eq_false hr] at hpe
    have hpn : (rest.toList != ([] : List UInt8)) = true := by rw [bne, hpe]; rfl
    clear hr
    cases sp
    case false =>
      rw [if_neg (fun h => Bool.noConfusion h.2)]
      go_enter Tryd.func86, Tryd.ntmps86
      go_wp2_with fail
      refine wp_region_class (Below w.heap.size w) (by kernel_rfl) (by kernel_rfl) (Below.refl _ _).drew ?_
      repeat (go_big_quiet_step (first | (intro hh; with_reducible exact hT.out _ hh) | (intro _; rfl)))
      refine wpQuiet_nil ?_
      intro wq hBq
      have HB := Lib.hid hBq
      clear hBq
      go_wp2_with fail
      refine (HO2.out _).mono ?_
      rintro r w2 ⟨rfl, rfl⟩
      go_wp2_with fail
      go_ret3
      exact ⟨rfl, HB.out⟩
    case true =>
      rw [if_pos ⟨rfl, rfl⟩]
      go_enter Tryd.func86, Tryd.ntmps86
      go_wp2_with fail
      refine wp_region_class (Below w.heap.size w) (by kernel_rfl) (by kernel_rfl) (Below.refl _ _).drew ?_
      repeat (go_big_quiet_step (first | (intro hh; with_reducible exact hT.out _ hh) | (intro _; rfl)))
      refine wpQuiet_nil ?_
      intro wq hBq
      have HB := Lib.hid hBq
      clear hBq
      go_wp2_with fail
      refine (HO2.out _).mono ?_
      rintro r w2 ⟨rfl, rfl⟩
      go_wp2_with fail
      go_ret3
      exact ⟨rfl, HB.out⟩
  · rw [decide_eq_false hq1] at h34
    rw [decide_eq_true hq] at h96
    have h34n : ((s[0].toNat : Int) != 34) = true := by rw [bne, h34]; rfl
    have h96n : ((s[0].toNat : Int) != 96) = false := by rw [bne, h96]; rfl
    clear hq hq1
    cases ok
    case false =>
      rw [if_neg (fun h => Bool.noConfusion h.1)]
      go_enter Tryd.func86, Tryd.ntmps86
      go_wp2_with fail
      refine wp_region_class (Below w.heap.size w) (by kernel_rfl) (by kernel_rfl) (Below.refl _ _).drew ?_
      repeat (go_big_quiet_step (first | (intro hh; with_reducible exact hT.out _ hh) | (intro _; rfl)))
      refine wpQuiet_nil ?_
      intro wq hBq
      have HB := Lib.hid hBq
      clear hBq
      go_wp2_with fail
      go_ret3
      exact ⟨rfl, HB.out⟩
    by_cases hr : rest = ⟨#[]⟩
    case pos =>
      have hsp := HE0.out hr
      rw [if_pos ⟨rfl, hsp⟩]
      rw [decide_eq_true hr] at hpe
      have hpn : (rest.toList != ([] : List UInt8)) = false := by rw [bne, hpe]; rfl
      clear hr hsp
      go_enter Tryd.func86, Tryd.ntmps86
      go_wp2_with fail
      refine wp_region_class (Below w.heap.size w) (by kernel_rfl) (by kernel_rfl) (Below.refl _ _).drew ?_
      repeat (go_big_quiet_step (first | (intro hh; with_reducible exact hT.out _ hh) | (intro _; rfl)))
      refine wpQuiet_nil ?_
      intro wq hBq
      have HB := Lib.hid hBq
      clear hBq
      go_wp2_with fail
      go_ret3
      exact ⟨rfl, HB.out⟩
    have hr0 : 0 < rest.size := Nat.pos_of_ne_zero (fun h => hr (ByteArray.ext (Array.eq_empty_of_size_eq_zero h)))
    have hrI : (1 : Int) ≤ (rest.size : Int) := by omega
    have HO2 := Lib.hid (fun w1 => HO.out hr0 w1)
    rw [decide_eq_false hr] at hpe
    have hpn : (rest.toList != ([] : List UInt8)) = true := by rw [bne, hpe]; rfl
    clear hr
    cases sp
    case false =>
      rw [if_neg (fun h => Bool.noConfusion h.2)]
      go_enter Tryd.func86, Tryd.ntmps86
      go_wp2_with fail
      refine wp_region_class (Below w.heap.size w) (by kernel_rfl) (by kernel_rfl) (Below.refl _ _).drew ?_
      repeat (go_big_quiet_step (first | (intro hh; with_reducible exact hT.out _ hh) | (intro _; rfl)))
      refine wpQuiet_nil ?_
      intro wq hBq
      have HB := Lib.hid hBq
      clear hBq
      go_wp2_with fail
      refine (HO2.out _).mono ?_
      rintro r w2 ⟨rfl, rfl⟩
      go_wp2_with fail
      go_ret3
      exact ⟨rfl, HB.out⟩
    case true =>
      rw [if_pos ⟨rfl, rfl⟩]
      go_enter Tryd.func86, Tryd.ntmps86
      go_wp2_with fail
      refine wp_region_class (Below w.heap.size w) (by kernel_rfl) (by kernel_rfl) (Below.refl _ _).drew ?_
      repeat (go_big_quiet_step (first | (intro hh; with_reducible exact hT.out _ hh) | (intro _; rfl)))
      refine wpQuiet_nil ?_
      intro wq hBq
      have HB := Lib.hid hBq
      clear hBq
      go_wp2_with fail
      refine (HO2.out _).mono ?_
      rintro r w2 ⟨rfl, rfl⟩
      go_wp2_with fail
      go_ret3
      exact ⟨rfl, HB.out⟩
end Go.Proofs.YtejogobhnbjpdaaDoor
namespace Go.Proofs.YtejogobhnbjpdaaDoor
set_option linter.unusedVariables false
set_option linter.unusedSimpArgs false
open Go.ChangeShapes Go.WideShapes Go.ChangeAt Go.RowKit

/-- The words of a text that begins with none of blank and tab. -/
def patsGo (s : ByteArray) (L : List ByteArray) : Option (List ByteArray) :=
  if h : 0 < s.size then
    if (patR s s[0]).2.2 = true then
      if hd : (trimLB (patR s s[0]).2.1).size < s.size then patsGo (trimLB (patR s s[0]).2.1) (L ++ [(patR s s[0]).1]) else none
    else none
  else some L
termination_by s.size
/-- Begins with none of blank and tab. -/
def Ns (s : ByteArray) : Prop := ∀ h : 0 < s.size, s[0] ≠ 32 ∧ s[0] ≠ 9
theorem dropWhile_head {p : UInt8 → Bool} : ∀ (l : List UInt8) (x : UInt8) (r : List UInt8), l.dropWhile p = x :: r → p x = false
  | [], x, r, h => by cases h
  | y :: l, x, r, h => by
    rw [List.dropWhile_cons] at h
    split at h
    · exact dropWhile_head l x r h
    · rename_i hp
      injection h with h1 h2
      subst h1
      simpa using hp
theorem ns_drop (cs l : List UInt8) (h1 : cs.contains 32 = true) (h2 : cs.contains 9 = true) : Ns ⟨(l.dropWhile (cs.contains ·)).toArray⟩ := by
  intro h
  obtain ⟨x, r, hx⟩ : ∃ x r, l.dropWhile (cs.contains ·) = x :: r := by
    cases hq : l.dropWhile (cs.contains ·) with
    | nil =>
      exfalso
      have : (⟨(l.dropWhile (cs.contains ·)).toArray⟩ : ByteArray).size = (l.dropWhile (cs.contains ·)).length := by show (l.dropWhile (cs.contains ·)).toArray.size = _; simp
      rw [this, hq] at h
      exact Nat.lt_irrefl 0 h
    | cons x r => exact ⟨x, r, rfl⟩
  have hp := dropWhile_head _ _ _ hx
  have hg : (⟨(l.dropWhile (cs.contains ·)).toArray⟩ : ByteArray)[0] = x := by
    show (l.dropWhile (cs.contains ·)).toArray[0] = x
    have h3 : (l.dropWhile (cs.contains ·)).toArray[0]? = some x := by rw [List.getElem?_toArray, hx]; rfl
    exact (Array.getElem?_eq_some_iff.1 h3).2
  rw [hg]
  exact ⟨fun e => (by rw [e, h1] at hp; cases hp), fun e => (by rw [e, h2] at hp; cases hp)⟩
theorem trimLB_ns (s : ByteArray) : Ns (trimLB s) := ns_drop _ _ (by decide) (by decide)
theorem trimB_ns (s : ByteArray) : Ns (trimB s) := ns_drop _ _ (by decide) (by decide)
theorem dirR_ns (s p : ByteArray) : Ns (dirR s p).1 := by
  unfold dirR
  split
  · split
    · split
      · exact trimB_ns _
      · exact fun h => absurd h (Nat.lt_irrefl 0)
    · exact trimB_ns _
  · exact fun h => absurd h (Nat.lt_irrefl 0)
theorem ns_word {s : ByteArray} (h : Ns s) (h0 : 0 < s.size) : 0 < wordN s := by
  unfold wordN
  obtain ⟨n1, n2⟩ := h h0
  split
  · exact h0
  · rename_i hge
    rcases ia_or [32, 9] s.data.toList with hi | ⟨n, hn, hi⟩
    · rw [hi] at hge; exact absurd (by decide) hge
    · rw [hi, Int.toNat_natCast]
      refine Nat.pos_of_ne_zero (fun e => ?_)
      subst e
      obtain ⟨x, r, hx⟩ : ∃ x r, s.data.toList = x :: r := by
        cases hq : s.data.toList with
        | nil => rw [hq] at hn; exact absurd hn (Nat.lt_irrefl 0)
        | cons x r => exact ⟨x, r, rfl⟩
      have hsx : s[0] = x := by
        show s.data[0] = x
        have : s.data.toList[0]? = some x := by rw [hx]; rfl
        rw [Array.getElem?_toList] at this
        exact (Array.getElem?_eq_some_iff.1 this).2
      rw [hsx] at n1 n2
      rw [hx, Lib.indexAny] at hi
      have hc : ([32, 9] : List UInt8).contains x = false := by
        simp [n1, n2]
      rw [hc] at hi
      simp only [Bool.false_eq_true, if_false] at hi
      have := Lib.indexAny_ge [32, 9] r
      split at hi
      · exact absurd hi (by decide)
      · rename_i hne
        rw [beq_iff_eq] at hne
        omega
theorem patR_less {s : ByteArray} (h : Ns s) (h0 : 0 < s.size) (hok : (patR s s[0]).2.2 = true) : (trimLB (patR s s[0]).2.1).size < s.size := by
  refine Nat.lt_of_le_of_lt (trimLB_size _) ?_
  unfold patR at hok ⊢
  split
  · have := ns_word h h0
    show (s.extract (wordN s) s.size).size < s.size
    rw [ByteArray.size_extract]; omega
  · rename_i hq
    rw [if_neg hq] at hok
    split
    · show (cutR (s.extract 1 s.size) s[0]).2.1.size < s.size
      have hz : (s.extract 1 s.size).size = s.size - 1 := by rw [ByteArray.size_extract]; omega
      unfold cutR
      split
      · exact h0
      · show ((s.extract 1 s.size).extract _ (s.extract 1 s.size).size).size < s.size
        refine Nat.lt_of_le_of_lt (ext_size _ _ _) ?_
        omega
    · exact h0
theorem patR_one (s : ByteArray) (c : UInt8) : (patR s c).1.size ≤ s.size := by
  unfold patR
  split
  · exact ext_size _ _ _
  · split
    · show (cutR (s.extract 1 s.size) c).1.size ≤ s.size
      unfold cutR
      split
      · exact ext_size _ _ _
      · exact Nat.le_trans (ext_size _ _ _) (ext_size _ _ _)
    · exact Nat.zero_le _
set_option maxRecDepth 100000 in
set_option maxHeartbeats 2000000 in
theorem patterns_any (HIX : IdxC) (s : ByteArray) (w : World) (hs : s.size ≤ 1048576) (hn : Ns s) :
    Calls Tryd.prog 58 #[.string s] w fun e w' => ((∃ L v', patsGo s [] = some L ∧ e = .returned (.tuple #[v', .bool (decide (0 < L.length))]) ∧ LAt 1 strV w' v' L ∧ L.length ≤ 1048576 ∧ ∀ x ∈ L, x.size ≤ 1048576) ∨ (patsGo s [] = none ∧ e = .returned (.tuple #[.slice none 0 0, .bool false]))) ∧ Below w.heap.size w w' := by
  go_enter Tryd.func58, Tryd.ntmps58
  go_wp2_with fail
  go_loopg [0, 4] s.size (fun g sv vo wr => ∃ (t : ByteArray) (L : List ByteArray), sv = .string t ∧ g = t.size ∧ Ns t ∧ t.size + L.length ≤ s.size ∧ Hid (wr.ownsRow w.heap.size 9 1 vo L.length (LF strV L)) ∧ Hid (patsGo s [] = patsGo t L) ∧ Hid (∀ x ∈ L, x.size ≤ 1048576) ∧ Hid (Below w.heap.size w wr))
  case atStart => exact ⟨s, [], rfl, rfl, hn, Nat.le_refl _, Lib.hid ⟨rfl, .inl ⟨rfl, rfl⟩⟩, Lib.hid rfl, Lib.hid (by simp), Lib.hid (Below.refl _ _)⟩
  case round =>
    obtain ⟨t, L, rfl, rfl, hnt, hlen, HO, HE, HS, HB⟩ := hrel
    have hte : (t.toList == ([] : List UInt8)) = decide (t = ⟨#[]⟩) := str_lit t #[]
    by_cases h0 : 0 < t.size
    case neg =>
      have ht0 : t = ⟨#[]⟩ := ByteArray.ext (Array.eq_empty_of_size_eq_zero (show t.data.size = 0 from by have : t.size = t.data.size := rfl; omega))
      have HE2 := Lib.hid (HE.out.trans (by rw [patsGo, dif_neg h0] : patsGo t L = some L))
      rw [decide_eq_true ht0] at hte
      have htn : (t.toList != ([] : List UInt8)) = false := by rw [bne, hte]; rfl
      obtain ⟨p6, c6, rfl⟩ : ∃ p c, u4 = .slice p L.length c := by
        rcases HO.out.2 with ⟨h1, h2⟩ | ⟨g, cap, cur, hv, _⟩
        · exact ⟨none, 0, by rw [h1, h2]⟩
        · exact ⟨_, cap, hv⟩
      have hdc : decide (0 < (L.length : Int)) = decide (0 < L.length) := by
        by_cases h : 0 < L.length
        · rw [decide_eq_true h]; exact decide_eq_true (by omega)
        · rw [decide_eq_false h]; exact decide_eq_false (by omega)
      clear ht0
      go_wp2_with fail
      all_goals go_ret2
      all_goals exact ⟨.inl ⟨L, _, HE2.out, by first | rfl | rw [← hdc]; rfl | (rw [← hdc]; simp_all), LAt.own (fun y _ => strV_len y) HO.out, by omega, HS.out⟩, HB.out⟩
    rw [decide_eq_false (fun h => by rw [h] at h0; exact Nat.lt_irrefl 0 h0)] at hte
    have htn : (t.toList != ([] : List UInt8)) = true := by rw [bne, hte]; rfl
    have HP := Lib.hid (fun w1 => pattern_any HIX t w1 (by omega) h0)
    have HL := Lib.hid (fun hok => patR_less hnt h0 hok)
    have hone := patR_one t t[0]
    have hrs : (patR t t[0]).2.2 = true → (trimLB (patR t t[0]).2.1).size < t.size := HL.out
    have HT := Lib.hid (fun w1 => trimLeft_any (patR t t[0]).2.1 w1)
    have hnt2 := trimLB_ns (patR t t[0]).2.1
    have HE1 := Lib.hid (show patsGo t L = if (patR t t[0]).2.2 = true then (if hd : (trimLB (patR t t[0]).2.1).size < t.size then patsGo (trimLB (patR t t[0]).2.1) (L ++ [(patR t t[0]).1]) else none) else none from by rw [patsGo, dif_pos h0])
    generalize trimLB (patR t t[0]).2.1 = tl at *
    generalize patR t t[0] = r at *
    obtain ⟨one, rest, ok⟩ := r
    change Hid (∀ w1, Calls Tryd.prog 84 #[.string rest, .string wBetween] w1 fun e w' => e = .returned (.string tl) ∧ Below w1.heap.size w1 w') at HT
    change Hid (∀ w1, Calls Tryd.prog 86 #[.string t] w1 fun e w' => e = .returned (.tuple #[.string one, .string rest, .bool ok]) ∧ Below w1.heap.size w1 w') at HP
    change Hid (patsGo t L = if ok = true then (if hd : tl.size < t.size then patsGo tl (L ++ [one]) else none) else none) at HE1
    change ok = true → tl.size < t.size at hrs
    have hoz : one.size ≤ 1048576 := Nat.le_trans hone (by omega)
    clear HL hone
    cases ok
    case false =>
      have HE2 := Lib.hid (HE.out.trans (HE1.out.trans (if_neg Bool.noConfusion)))
      clear HE1 hrs
      go_wp2_with fail
      refine (HP.out _).mono ?_
      rintro r w2 ⟨rfl, hB⟩
      have HB2 := Lib.hid (HB.out.trans (hB.mono HB.out.size))
      clear hB
      go_wp2_with fail
      go_ret2
      exact ⟨.inr ⟨HE2.out, rfl⟩, HB2.out⟩
    have hlt := hrs rfl
    have HE2 := Lib.hid (HE.out.trans (HE1.out.trans ((if_pos rfl).trans (dif_pos hlt))))
    clear HE1 hrs
    go_wp2_with fail
    refine (HP.out _).mono ?_
    rintro r w2 ⟨rfl, hB⟩
    have HB2 := Lib.hid (HB.out.trans (hB.mono HB.out.size))
    have HO2 := Lib.hid (gen_own_below HO.out hB)
    clear hB
    go_wp2_with (first | (at_builtin; go_must (refine wpList_append_gen eltS rfl (.tmp 18) (.tmp 20) rfl rfl w.heap.size _ L rfl (gen_own_below HO2.out ((Below.refl _ _).alloc (Nat.le_refl _) _)) _ [one] (LAt.block rfl rfl (heap_alloc_new _ _)) rfl (by simp only [List.length_cons, List.length_nil]; omega) (by unfold maxLen; simp only [List.length_cons, List.length_nil]; omega) (by have := HB2.out.size; simp; omega) ?_); intro va wa hoa hga))
    have hBb := (HB2.out.alloc HB2.out.size (.cells #[.string one] 9)).grown hga (by have := HB2.out.size; simp at this ⊢; omega) (fun k hk => (HO2.out.lt k hk).1)
    have HBb := Lib.hid hBb
    have Hoa := Lib.hid hoa
    clear hBb hoa hga
    have HS2 := Lib.hid (show ∀ x ∈ L ++ [one], x.size ≤ 1048576 from fun x hx => by
      rcases List.mem_append.1 hx with h | h
      · exact HS.out x h
      · rw [List.mem_singleton.1 h]; exact hoz)
    go_wp2_with fail
    refine (HT.out _).mono ?_
    rintro r w3 ⟨rfl, hB⟩
    have HB3 := Lib.hid (HBb.out.trans (hB.mono HBb.out.size))
    have HO3 := Lib.hid (gen_own_below Hoa.out hB)
    clear hB
    go_wp2_with fail
    go_roundg tl.size
    case measure => omega
    case rel => exact ⟨tl, L ++ [one], rfl, rfl, hnt2, by simp; omega, HO3, HE2, HS2, HB3⟩
end Go.Proofs.YtejogobhnbjpdaaDoor
namespace Go.Proofs.YtejogobhnbjpdaaDoor
set_option linter.unusedVariables false
set_option linter.unusedSimpArgs false
open Go.ChangeShapes Go.WideShapes Go.ChangeAt Go.RowKit

abbrev wEmbed : ByteArray := ⟨#[103, 111, 58, 101, 109, 98, 101, 100]⟩
def embD (x : ByteArray) : ByteArray × Bool := dirR (behind x) wEmbed
theorem embD_size (x : ByteArray) : (embD x).1.size ≤ x.size := Nat.le_trans (dirR_size _ _) (behind_size _)
theorem embD_ns (x : ByteArray) : Ns (embD x).1 := dirR_ns _ _
/-- The patterns, behind those that were met; or where one stands that can't be read. -/
def embGo : List Tk → List ByteArray → Option Nat × List ByteArray
  | [], E => (none, E)
  | x :: M, E => if (embD x.2.1).2 = false then embGo M E else
    match patsGo (embD x.2.1).1 [] with
    | none => (some x.2.2, [])
    | some L => if 0 < L.length then embGo M (E ++ L) else (some x.2.2, [])
theorem embGo_no {x : Tk} {M : List Tk} {E : List ByteArray} (h : (embD x.2.1).2 = false) : embGo (x :: M) E = embGo M E := by
  rw [embGo, if_pos h]
theorem embGo_none {x : Tk} {M : List Tk} {E : List ByteArray} (h : (embD x.2.1).2 = true) (hp : patsGo (embD x.2.1).1 [] = none) : embGo (x :: M) E = (some x.2.2, []) := by
  rw [embGo, if_neg (by rw [h]; exact Bool.noConfusion), hp]
theorem embGo_zero {x : Tk} {M : List Tk} {E L : List ByteArray} (h : (embD x.2.1).2 = true) (hp : patsGo (embD x.2.1).1 [] = some L) (hl : ¬ 0 < L.length) : embGo (x :: M) E = (some x.2.2, []) := by
  rw [embGo, if_neg (by rw [h]; exact Bool.noConfusion), hp]
  show (if 0 < L.length then _ else _) = _
  rw [if_neg hl]
theorem embGo_some {x : Tk} {M : List Tk} {E L : List ByteArray} (h : (embD x.2.1).2 = true) (hp : patsGo (embD x.2.1).1 [] = some L) (hl : 0 < L.length) : embGo (x :: M) E = embGo M (E ++ L) := by
  rw [embGo, if_neg (by rw [h]; exact Bool.noConfusion), hp]
  show (if 0 < L.length then _ else _) = _
  rw [if_pos hl]
def EmbEnd (M : List Tk) (w : World) (e : Ending) (w' : World) : Prop :=
  ((∃ E v', embGo M [] = (none, E) ∧ e = .returned (.tuple #[v', .int .i64 (-1)]) ∧ LAt 1 strV w' v' E ∧ ∀ g, v'.ownBlock = some g → w.heap.size ≤ g) ∨ (∃ p : Nat, ∃ E, embGo M [] = (some p, E) ∧ e = .returned (.tuple #[.slice none 0 0, .int .i64 p]))) ∧ Below w.heap.size w w'
set_option maxRecDepth 100000 in
set_option maxHeartbeats 2000000 in
theorem emb_any (HIX : IdxC) (M : List Tk) (v : Value) (w : World) (h : LAt 3 tkV w v M) (hM : M.length ≤ 4194304) (hP : ∀ x ∈ M, 2 ≤ x.2.1.size ∧ x.2.1.size ≤ 1048576) :
    Calls Tryd.prog 36 #[v] w (EmbEnd M w) := by
  obtain ⟨pp, cap, rfl, hp⟩ := h.shape
  have HV := Lib.hid h
  have Hp := Lib.hid hp
  have HP := Lib.hid hP
  obtain ⟨len, hl⟩ : ∃ len, len = M.length := ⟨_, rfl⟩
  rw [← hl] at HV Hp hM ⊢
  have Hl := Lib.hid hl
  clear h hp hl hP
  go_enter Tryd.func36, Tryd.ntmps36
  go_wp2_with fail
  go_loopg [4, 12] len (fun g vo iv wr => ∃ (k : Nat) (E : List ByteArray), k + g = len ∧ iv = .int .i64 k ∧ E.length ≤ k * 1048576 ∧ Hid (wr.ownsRow w.heap.size 9 1 vo E.length (LF strV E)) ∧ Hid (embGo M [] = embGo (M.drop k) E) ∧ Hid (Below w.heap.size w wr))
  case atStart => exact ⟨0, [], by omega, rfl, by simp, Lib.hid ⟨rfl, .inl ⟨rfl, rfl⟩⟩, Lib.hid (by rw [List.drop_zero]), Lib.hid (Below.refl _ _)⟩
  case round =>
    obtain ⟨i, E, hig, rfl, hEl, HO, HC, HB⟩ := hrel
    by_cases hlt : i < len
    case neg =>
      have hnI : ¬ (i : Int) < (len : Int) := by omega
      have HC2 := Lib.hid (show embGo M [] = (none, E) from by rw [HC.out, List.drop_eq_nil_of_le (by rw [← Hl.out]; omega)]; rfl)
      go_wp2_with fail
      go_ret2
      exact ⟨.inl ⟨E, _, HC2.out, rfl, LAt.own (fun y _ => strV_len y) HO.out, fun g hg => (HO.out.lt g hg).1⟩, HB.out⟩
    have hltI : (i : Int) < (len : Int) := by omega
    have hiM : i < M.length := by have := Hl.out; omega
    obtain ⟨g1, o1, rfl⟩ := Hp.out (by omega)
    obtain ⟨⟨k, x, p⟩, hx⟩ : ∃ t, M[i]? = some t := ⟨_, List.getElem?_eq_getElem hiM⟩
    have hps := HP.out _ (List.mem_of_getElem? hx)
    have hz2 : 2 ≤ x.size := hps.1
    have hz3 : x.size ≤ 1048576 := hps.2
    have hzI : (2 : Int) ≤ (x.size : Int) := by omega
    obtain ⟨hg1, e0, e1, e2⟩ := HV.out.cells hx
    have f0 := (HB.out.cell (p := ⟨g1, o1 + i * 3, none⟩) hg1).trans e0
    have f1 := (HB.out.cell (p := ⟨g1, o1 + i * 3 + 1, none⟩) hg1).trans e1
    have f2 := (HB.out.cell (p := ⟨g1, o1 + i * 3 + 2, none⟩) hg1).trans e2
    have hdr : M.drop i = (k, x, p) :: M.drop (i + 1) := by
      rw [List.drop_eq_getElem_cons hiM]
      congr 1
      exact (List.getElem?_eq_some_iff.1 hx).2
    rw [hdr] at HC
    have hba := (Below.refl wr.heap.size wr).alloc (Nat.le_refl _) (.cells #[.int .i64 k, .string x, .int .i64 p] 31)
    have HBa := Lib.hid (HB.out.trans (hba.mono HB.out.size))
    have HOa := Lib.hid (gen_own_below HO.out hba)
    have Hnew := Lib.hid (heap_alloc_new wr (.cells #[.int .i64 k, .string x, .int .i64 p] 31))
    have hbz2 := behind_size x
    have HD := Lib.hid (fun w1 => directive_any (x.extract 2 x.size) wEmbed w1 (Nat.le_trans hbz2 (by omega)))
    have hdz := embD_size x
    have hns := embD_ns x
    change Hid (∀ w1, Calls Tryd.prog 55 #[.string (x.extract 2 x.size), .string wEmbed] w1 fun e w' => e = .returned (.tuple #[.string (embD x).1, .bool (embD x).2]) ∧ Below w1.heap.size w1 w') at HD
    obtain ⟨db, hdb⟩ : ∃ db, (embD x).2 = db := ⟨_, rfl⟩
    rw [hdb] at HD
    have HC0 : Hid ((embD x).2 = false → embGo M [] = embGo (M.drop (i + 1)) E) := Lib.hid (fun h => HC.out.trans (embGo_no (x := (k, x, p)) h))
    have HC1 : Hid ((embD x).2 = true → patsGo (embD x).1 [] = none → embGo M [] = (some p, [])) := Lib.hid (fun h hp => HC.out.trans (embGo_none (x := (k, x, p)) h hp))
    have HC2 : Hid ((embD x).2 = true → ∀ L, patsGo (embD x).1 [] = some L → ¬ 0 < L.length → embGo M [] = (some p, [])) := Lib.hid (fun h L hp hl => HC.out.trans (embGo_zero (x := (k, x, p)) h hp hl))
    have HC3 : Hid ((embD x).2 = true → ∀ L, patsGo (embD x).1 [] = some L → 0 < L.length → embGo M [] = embGo (M.drop (i + 1)) (E ++ L)) := Lib.hid (fun h L hp hl => HC.out.trans (embGo_some (x := (k, x, p)) h hp hl))
    rw [hdb] at HC0 HC1 HC2 HC3
    clear hdb
    have hdz2 : (embD x).1.size ≤ 1048576 := Nat.le_trans hdz hz3
    have HPT := Lib.hid (fun w1 => patterns_any HIX (embD x).1 w1 hdz2 hns)
    generalize (embD x).1 = d at *
    clear e0 e1 e2 hx hba hdr hps hbz2 HC hdz hns
    go_wp2_with fail
    generalize wr.alloc (.cells #[.int .i64 k, .string x, .int .i64 p] 31) = w2 at *
    refine (HD.out _).mono ?_
    rintro r w4 ⟨rfl, hB⟩
    have HB4 := Lib.hid (HBa.out.trans (hB.mono HBa.out.size))
    have HO4 := Lib.hid (gen_own_below HOa.out hB)
    have hn4 := (hB.block wr.heap.size (lt_of_block Hnew.out)).trans Hnew.out
    have Hn4 := Lib.hid hn4
    clear hB HBa Hnew hn4
    cases db
    case false =>
      have HF := Lib.hid (HC0.out rfl)
      have hE2 : E.length ≤ (i + 1) * 1048576 := by rw [Nat.add_mul]; exact Nat.le_trans hEl (Nat.le_add_right _ _)
      clear HC0 HC1 HC2 HC3
      go_wp2_with fail
      go_roundg (gk - 1)
      case measure => omega
      case rel => exact ⟨i + 1, E, by omega, by go_num, hE2, HO4, HF, HB4⟩
    go_wp2_with fail
    refine (HPT.out _).mono ?_
    rintro r w5 ⟨hpt, hB⟩
    have HB5 := Lib.hid (HB4.out.trans (hB.mono HB4.out.size))
    have HO5 := Lib.hid (gen_own_below HO4.out hB)
    have hn5 := (hB.block wr.heap.size (lt_of_block Hn4.out)).trans Hn4.out
    have c2 := block_cell hn5 2
    clear hB HB4 Hn4 hn5
    rcases hpt with ⟨L, v2, hpg, rfl, hLA, hLl, hLs⟩ | ⟨hpg, rfl⟩
    case inr =>
      have HF := Lib.hid (HC1.out (by simp) hpg)
      clear HC0 HC1 HC2 HC3 hpg
      go_wp2_with fail
      go_region
      all_goals (try go_wp2_with fail)
      all_goals go_ret2
      all_goals exact ⟨.inr ⟨p, [], HF.out, rfl⟩, HB5.out.drew⟩
    by_cases hl0 : 0 < L.length
    case neg =>
      have HF := Lib.hid (HC2.out (by simp) L hpg hl0)
      rw [decide_eq_false hl0]
      clear HC0 HC1 HC2 HC3 hpg hLA hLs
      go_wp2_with fail
      go_region
      all_goals (try go_wp2_with fail)
      all_goals go_ret2
      all_goals exact ⟨.inr ⟨p, [], HF.out, rfl⟩, HB5.out.drew⟩
    have HF := Lib.hid (HC3.out (by simp) L hpg hl0)
    rw [decide_eq_true hl0]
    have HLA := Lib.hid hLA
    clear HC0 HC1 HC2 HC3 hpg hLA hLs
    go_wp2_with (first | (at_builtin; go_must (refine wpList_append_gen eltS rfl (.tmp 34) (.tmp 35) rfl rfl w.heap.size _ E rfl HO5.out _ L HLA.out rfl (by omega) (by unfold maxLen; omega) (by have := HB5.out.size; omega) ?_); intro va wa hoa hga))
    have hBb := HB5.out.grown hga HB5.out.size (fun k hk => (HO5.out.lt k hk).1)
    have HBb := Lib.hid hBb
    have Hoa := Lib.hid hoa
    clear hBb hoa hga
    go_wp2_with fail
    go_roundg (gk - 1)
    case measure => omega
    case rel => exact ⟨i + 1, E ++ L, by omega, by go_num, by simp; omega, Hoa, HF, HBb⟩
end Go.Proofs.YtejogobhnbjpdaaDoor
