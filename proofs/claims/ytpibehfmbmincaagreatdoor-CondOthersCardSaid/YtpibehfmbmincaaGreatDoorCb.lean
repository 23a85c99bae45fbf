/- Walks: whether a tag holds on a platform. -/
import Derived.Test.YtpibehfmbmincaaGreatDoorCa
import Derived.Test.YtpibehfmbmincaaGreatDoorXi
import Derived.Test.YtpibehfmbmincaaGreatDoorWi
import Derived.Test.YtpibehfmbmincaaGreatDoorRa
import Derived.Test.YtpibehfmbmincaaGreatDoorSh
import Derived.Lib.AtoiErrMem
import Derived.Lib.AppendIntMem
import Derived.Lib.AtoiBound
import Derived.WalkSmall
namespace Go.Proofs.YtpibehfmbmincaaGreatDoor
set_option linter.unusedVariables false
open Go.ChangeShapes Go.WideShapes Go.ChangeAt Go.RowKit

/-- What the library's variables hold. -/
structure Env (w : World) : Prop where
  max : MaxAt w
  err : ∃ te pe, w.cell? ⟨0, 0, none⟩ = some (.iface te pe)
  tab : Lib.TabIs Tryz.prog w "internal/strconv.uint64pow10" .u64 Lib.pow10Tab
theorem Env.below {w w' : World} (h : Env w) (hB : Below w.heap.size w w') : Env w' := by
  obtain ⟨h1, ⟨te, pe, h2⟩, h3⟩ := h
  have h0 := h1.1
  exact ⟨h1.below h0 hB, ⟨te, pe, (hB.cell (p := ⟨0, 0, none⟩) (by show 0 < w.heap.size; omega)).trans h2⟩, var?_below hB (g := 2) (by kernel_rfl) (by omega) h3⟩
theorem lits_eq {s : ByteArray} {l : List UInt8} (h : s = ⟨l.toArray⟩) : (s.toList == l) = true := lit_eq h

theorem alike_any (s : ByteArray) (w : World) : Calls Tryz.prog 14 #[.string s] w fun e w' => e = .returned (.string (alikeB s)) ∧ w = w' := by
  unfold alikeB
  by_cases h1 : s = ⟨#[97, 110, 100, 114, 111, 105, 100]⟩
  · have b1 := lit_eq (l := [97, 110, 100, 114, 111, 105, 100]) h1
    rw [if_pos h1]
    clear h1
    go_enter Tryz.func14, Tryz.ntmps14
    go_wp2_with fail
    go_ret
    exact ⟨rfl, rfl⟩
  have b1 := lit_ne (l := [97, 110, 100, 114, 111, 105, 100]) h1
  rw [if_neg h1]
  clear h1
  by_cases h2 : s = ⟨#[105, 108, 108, 117, 109, 111, 115]⟩
  · have b2 := lit_eq (l := [105, 108, 108, 117, 109, 111, 115]) h2
    rw [if_pos h2]
    clear h2
    go_enter Tryz.func14, Tryz.ntmps14
    go_wp2_with fail
    go_ret
    exact ⟨rfl, rfl⟩
  have b2 := lit_ne (l := [105, 108, 108, 117, 109, 111, 115]) h2
  rw [if_neg h2]
  clear h2
  by_cases h3 : s = ⟨#[105, 111, 115]⟩
  · have b3 := lit_eq (l := [105, 111, 115]) h3
    rw [if_pos h3]
    clear h3
    go_enter Tryz.func14, Tryz.ntmps14
    go_wp2_with fail
    go_ret
    exact ⟨rfl, rfl⟩
  have b3 := lit_ne (l := [105, 111, 115]) h3
  rw [if_neg h3]
  clear h3
  go_enter Tryz.func14, Tryz.ntmps14
  go_wp2_with fail
  go_ret
  exact ⟨rfl, rfl⟩

/-! ### level -/
theorem trim_go1 (t : ByteArray) : (⟨(Lib.trimPrefix t.data.toList (⟨#[103, 111, 49, 46]⟩ : ByteArray).data.toList).toArray⟩ : ByteArray) = mkB (if Lib.hasPrefix t.data.toList go1L then t.data.toList.drop 4 else t.data.toList) := by
  unfold Lib.trimPrefix
  rfl
theorem level_any (t : ByteArray) (lv : Int) (w : World) (hE : Env w) (ht : t.size ≤ 140737488351232) :
    Calls Tryz.prog 15 #[.string t, .int .i64 lv] w fun e w' => e = .returned (.bool (levB t lv)) ∧ Below w.heap.size w w' := by
  have HC := fun w1 => Tryz.strings_CutPrefix t ⟨#[103, 111, 49, 46]⟩ w1
  rw [trim_go1] at HC
  have hp : Lib.hasPrefix t.data.toList (⟨#[103, 111, 49, 46]⟩ : ByteArray).data.toList = Lib.hasPrefix t.data.toList go1L := rfl
  rw [hp] at HC
  clear hp
  unfold levB lvOf
  cases h1 : Lib.hasPrefix t.data.toList go1L with
  | false =>
    rw [h1] at HC
    rw [if_neg (by simp)]
    simp only [Bool.false_eq_true, reduceIte] at HC
    have HC' := Lib.hid HC
    clear HC h1 hE
    have e0 : mkB t.data.toList = t := mkB_data t
    rw [e0] at HC'
    go_enter Tryz.func15, Tryz.ntmps15
    go_wp2_with fail
    refine (HC'.out _).mono ?_
    rintro e w1 ⟨rfl, rfl⟩
    go_wp2_with fail
    go_ret
    exact ⟨rfl, Below.refl _ _⟩
  | true =>
    rw [h1] at HC
    simp only [reduceIte] at HC
    have hdl : (t.data.toList.drop 4).length ≤ t.size := by rw [List.length_drop, ba_len]; omega
    generalize t.data.toList.drop 4 = d at *
    have hds : (mkB d).size = d.length := mkB_size d
    have hdd : (mkB d).data.toList = d := rfl
    obtain ⟨D, hD⟩ : ∃ D, D = mkB d := ⟨_, rfl⟩
    rw [← hD] at HC hds hdd
    have HC' := Lib.hid HC
    clear HC h1 hD
    by_cases h4 : d.length ≤ 4
    · rw [if_pos ⟨rfl, h4⟩]
      have h4I : ¬ (4 : Int) < (D.size : Int) := by omega
      cases ha : Lib.atoi d with
      | none =>
        obtain ⟨te, pe, hc⟩ := hE.err
        have HA := Lib.hid (Tryz.strconv_Atoi_err D (by omega) (by rw [hdd]; exact ha) _ w hc (.inr ⟨te, pe, rfl⟩))
        clear hE hc ha hdd
        go_enter Tryz.func15, Tryz.ntmps15
        go_wp2_with fail
        refine (HC'.out _).mono ?_
        rintro e w1 ⟨rfl, rfl⟩
        go_wp2_with fail
        refine HA.out.mono ?_
        rintro e w2 ⟨n, rfl, -, -, hB⟩
        go_wp2_with fail
        go_ret
        exact ⟨rfl, hB⟩
      | some n =>
        have hb := Lib.atoi_bound ha (by omega)
        have HA := Lib.hid (Tryz.strconv_Atoi D n (by omega) (by rw [hdd]; exact ha) w)
        have HI := Lib.hid (fun w1 (h1 : Below w.heap.size w w1) => Tryz.strconv_Itoa n (by omega) (by omega) w1 (hE.below h1).tab)
        simp only
        by_cases hi : Lib.itoa n = d
        · have b1 : ((⟨(Lib.itoa n).toArray⟩ : ByteArray).toList == D.toList) = true := beq_of (ba_ext (by rw [hdd]; exact hi))
          by_cases h0 : 0 ≤ n
          · rw [if_pos ⟨hi, h0⟩]
            have e1 : ((n.toNat : Nat) : Int) = n := Int.toNat_of_nonneg h0
            simp only [e1]
            generalize (⟨(Lib.itoa n).toArray⟩ : ByteArray) = I at *
            clear hE ha hdd hi e1
            go_enter Tryz.func15, Tryz.ntmps15
            go_wp2_with fail
            refine (HC'.out _).mono ?_
            rintro e w1 ⟨rfl, rfl⟩
            go_wp2_with fail
            refine HA.out.mono ?_
            rintro e w2 ⟨rfl, t2, rfl⟩
            have hB := Lib.bytesWorld_below w1 5 t2
            go_wp2_with fail
            refine (HI.out _ hB).mono ?_
            rintro e w3 ⟨rfl, k, os, rfl⟩
            have hB2 := hB.trans (Lib.below_grow _ _ hB.size k os)
            go_wp2_with fail
            go_ret
            exact ⟨rfl, hB2⟩
          · rw [if_neg (by simp [h0])]
            generalize (⟨(Lib.itoa n).toArray⟩ : ByteArray) = I at *
            clear hE ha hdd hi
            go_enter Tryz.func15, Tryz.ntmps15
            go_wp2_with fail
            refine (HC'.out _).mono ?_
            rintro e w1 ⟨rfl, rfl⟩
            go_wp2_with fail
            refine HA.out.mono ?_
            rintro e w2 ⟨rfl, t2, rfl⟩
            have hB := Lib.bytesWorld_below w1 5 t2
            go_wp2_with fail
            refine (HI.out _ hB).mono ?_
            rintro e w3 ⟨rfl, k, os, rfl⟩
            have hB2 := hB.trans (Lib.below_grow _ _ hB.size k os)
            go_wp2_with fail
            go_ret
            exact ⟨rfl, hB2⟩
        · have b1 : ((⟨(Lib.itoa n).toArray⟩ : ByteArray).toList == D.toList) = false := beq_of_ne (fun e => hi (by
            have := congrArg (fun x : ByteArray => x.data.toList) e
            simp only [hdd] at this
            exact this))
          rw [if_neg (by simp [hi])]
          generalize (⟨(Lib.itoa n).toArray⟩ : ByteArray) = I at *
          clear hE ha hdd hi
          go_enter Tryz.func15, Tryz.ntmps15
          go_wp2_with fail
          refine (HC'.out _).mono ?_
          rintro e w1 ⟨rfl, rfl⟩
          go_wp2_with fail
          refine HA.out.mono ?_
          rintro e w2 ⟨rfl, t2, rfl⟩
          have hB := Lib.bytesWorld_below w1 5 t2
          go_wp2_with fail
          refine (HI.out _ hB).mono ?_
          rintro e w3 ⟨rfl, k, os, rfl⟩
          have hB2 := hB.trans (Lib.below_grow _ _ hB.size k os)
          go_wp2_with fail
          go_ret
          exact ⟨rfl, hB2⟩
    · rw [if_neg (by simp; omega)]
      have h4I : (4 : Int) < (D.size : Int) := by omega
      clear hE hdd
      go_enter Tryz.func15, Tryz.ntmps15
      go_wp2_with fail
      refine (HC'.out _).mono ?_
      rintro e w1 ⟨rfl, rfl⟩
      go_wp2_with fail
      go_ret
      exact ⟨rfl, Below.refl _ _⟩


/-! ### On -/
def cfV (c : Cf) (tv : Value) : Value := .agg #[.string c.os, .string c.arch, .bool c.cgo, .int .i64 c.lv, tv]

theorem new_cell (w : World) (cs : Array Value) (t : TypeId) (i : Nat) : (w.alloc (.cells cs t)).cell? ⟨w.heap.size, i, none⟩ = cs[i]? := block_cell (t := t) (by show (w.heap.push _)[w.heap.size]? = _; simp) i
theorem old_cell {w w' : World} {cs : Array Value} {t : TypeId} (hB : Below (w.alloc (.cells cs t)).heap.size (w.alloc (.cells cs t)) w') (i : Nat) : w'.cell? ⟨w.heap.size, i, none⟩ = cs[i]? := (hB.cell (p := ⟨w.heap.size, i, none⟩) (by simp)).trans (new_cell w cs t i)
theorem isEmpty_ne {t : ByteArray} (h : ¬ t = ⟨#[]⟩) : t.toList.isEmpty = false := by
  rw [Lib.toList_data]
  cases e : t.data.toList with
  | nil => exact absurd (ba_ext e) h
  | cons a r => rfl
theorem on_any (c : Cf) (t : ByteArray) (tv : Value) (w : World) (hE : Env w) (hv : Strs w tv c.tags) (hl : c.tags.length ≤ 1073741824) (ht : t.size ≤ 140737488351232) :
    Calls Tryz.prog 8 #[cfV c tv, .string t] w fun e w' => e = .returned (.bool (onB c t)) ∧ Below w.heap.size w w' := by
  have HU := Lib.hid (fun w1 => unix_any c.os w1)
  have HK := Lib.hid (fun w1 => alike_any c.os w1)
  have HL := Lib.hid (fun w1 (h1 : Below w.heap.size w w1) => level_any t c.lv w1 (hE.below h1) ht)
  have HT := Lib.hid (fun w1 (h1 : Below w.heap.size w w1) => contains_any tv c.tags t w1 (hv.below h1) hl)
  obtain ⟨p, cap, rfl, -⟩ := strs_shape hv
  clear hE hv
  unfold onB cfV
  obtain ⟨os, arch, cgo, lv, tags⟩ := c
  simp only at *
  by_cases h0 : t = ⟨#[]⟩
  · have e0 : t.toList.isEmpty = true := by rw [h0, Lib.toList_data]; rfl
    rw [if_pos h0]
    clear h0
    have hBx := (Below.refl w.heap.size w).alloc (Nat.le_refl _) (Obj.cells #[.string os, .string arch, .bool cgo, .int .i64 lv, .slice p tags.length cap] 24)
    go_enter Tryz.func8, Tryz.ntmps8
    go_wp2_with fail
    go_ret
    exact ⟨rfl, hBx⟩
  have e0 : t.toList.isEmpty = false := isEmpty_ne h0
  rw [if_neg h0]
  clear h0
  by_cases h1 : t = os
  · have e1 := beq_of (x := t) (y := os) h1
    rw [if_pos (.inl h1)]
    clear h1
    have hBx := (Below.refl w.heap.size w).alloc (Nat.le_refl _) (Obj.cells #[.string os, .string arch, .bool cgo, .int .i64 lv, .slice p tags.length cap] 24)
    go_enter Tryz.func8, Tryz.ntmps8
    go_wp2_with fail
    go_ret
    exact ⟨rfl, hBx⟩
  have e1 := beq_of_ne (x := t) (y := os) h1
  by_cases h2 : t = arch
  · have e2 := beq_of (x := t) (y := arch) h2
    rw [if_pos (.inr (.inl h2))]
    clear h2
    have hBx := (Below.refl w.heap.size w).alloc (Nat.le_refl _) (Obj.cells #[.string os, .string arch, .bool cgo, .int .i64 lv, .slice p tags.length cap] 24)
    go_enter Tryz.func8, Tryz.ntmps8
    go_wp2_with fail
    go_ret
    exact ⟨rfl, hBx⟩
  have e2 := beq_of_ne (x := t) (y := arch) h2
  by_cases h3 : t = ⟨#[103, 99]⟩
  · have e3 := lit_eq (l := [103, 99]) h3
    rw [if_pos (.inr (.inr h3))]
    clear h3
    have hBx := (Below.refl w.heap.size w).alloc (Nat.le_refl _) (Obj.cells #[.string os, .string arch, .bool cgo, .int .i64 lv, .slice p tags.length cap] 24)
    go_enter Tryz.func8, Tryz.ntmps8
    go_wp2_with fail
    go_ret
    exact ⟨rfl, hBx⟩
  have e3 := lit_ne (l := [103, 99]) h3
  rw [if_neg (by simp [h1, h2, h3])]
  clear h1 h2 h3
  by_cases h4 : t = ⟨#[117, 110, 105, 120]⟩
  · have e4 := lit_eq (l := [117, 110, 105, 120]) h4
    rw [if_pos h4]
    clear h4
    have hBx := (Below.refl w.heap.size w).alloc (Nat.le_refl _) (Obj.cells #[.string os, .string arch, .bool cgo, .int .i64 lv, .slice p tags.length cap] 24)
    go_enter Tryz.func8, Tryz.ntmps8
    go_wp2_with fail
    refine (HU.out _).mono ?_
    rintro e w1 ⟨rfl, rfl⟩
    go_wp2_with fail
    go_ret
    exact ⟨rfl, hBx⟩
  have e4 := lit_ne (l := [117, 110, 105, 120]) h4
  rw [if_neg h4]
  clear h4
  by_cases h5 : t = ⟨#[99, 103, 111]⟩
  · have e5 := lit_eq (l := [99, 103, 111]) h5
    rw [if_pos h5]
    clear h5
    have hBx := (Below.refl w.heap.size w).alloc (Nat.le_refl _) (Obj.cells #[.string os, .string arch, .bool cgo, .int .i64 lv, .slice p tags.length cap] 24)
    go_enter Tryz.func8, Tryz.ntmps8
    go_wp2_with fail
    go_ret
    exact ⟨rfl, hBx⟩
  have e5 := lit_ne (l := [99, 103, 111]) h5
  rw [if_neg h5]
  clear h5
  by_cases h6 : t = alikeB os
  · have e6 := beq_of (x := t) (y := alikeB os) h6
    rw [if_pos h6]
    obtain ⟨al, hal⟩ : ∃ al, al = alikeB os := ⟨_, rfl⟩
    rw [← hal] at HK e6
    clear hal
    clear h6
    have hBx := (Below.refl w.heap.size w).alloc (Nat.le_refl _) (Obj.cells #[.string os, .string arch, .bool cgo, .int .i64 lv, .slice p tags.length cap] 24)
    go_enter Tryz.func8, Tryz.ntmps8
    go_wp2_with fail
    refine (HK.out _).mono ?_
    rintro e w1 ⟨rfl, rfl⟩
    go_wp2_with fail
    go_ret
    exact ⟨rfl, hBx⟩
  have e6 := beq_of_ne (x := t) (y := alikeB os) h6
  rw [if_neg h6]
  clear h6
  obtain ⟨al, hal⟩ : ∃ al, al = alikeB os := ⟨_, rfl⟩
  rw [← hal] at HK e6
  clear hal
  have hBx := (Below.refl w.heap.size w).alloc (Nat.le_refl _) (Obj.cells #[.string os, .string arch, .bool cgo, .int .i64 lv, .slice p tags.length cap] 24)
  cases hlv : levB t lv
  · rw [hlv] at HL
    go_enter Tryz.func8, Tryz.ntmps8
    go_wp2_with fail
    refine (HK.out _).mono ?_
    rintro e w1 ⟨rfl, rfl⟩
    go_wp2_with fail
    refine (HL.out _ hBx).mono ?_
    rintro e w2 ⟨rfl, hB2⟩
    have hB := hBx.trans (hB2.mono hBx.size)
    have hc4 := old_cell hB2 4
    have hlt4 := hB2.size
    simp at hlt4
    go_wp2_with fail
    refine (HT.out _ hB).mono ?_
    rintro e w3 ⟨rfl, rfl⟩
    go_wp2_with fail
    go_ret
    exact ⟨rfl, hB⟩
  · rw [hlv] at HL
    go_enter Tryz.func8, Tryz.ntmps8
    go_wp2_with fail
    refine (HK.out _).mono ?_
    rintro e w1 ⟨rfl, rfl⟩
    go_wp2_with fail
    refine (HL.out _ hBx).mono ?_
    rintro e w2 ⟨rfl, hB2⟩
    have hB := hBx.trans (hB2.mono hBx.size)
    have hc4 := old_cell hB2 4
    have hlt4 := hB2.size
    simp at hlt4
    go_wp2_with fail
    go_ret
    exact ⟨rfl, hB⟩

/-! ### Great -/
theorem bytesS_take (l : List ByteArray) : ∀ k, k < l.length → bytesS (l.take (k + 1)) = bytesS (l.take k) + (l.getD k ByteArray.empty).size := by
  induction l with
  | nil => intro k h; simp at h
  | cons a r ih =>
    intro k h
    cases k with
    | zero => simp [bytesS]
    | succ k =>
      have := ih k (by simpa using h)
      rw [List.take_succ_cons, List.take_succ_cons]
      simp only [bytesS, List.getD_cons_succ]
      rw [this]; omega
theorem bytesS_le (l : List ByteArray) (k : Nat) : bytesS (l.take k) ≤ bytesS l := by
  induction l generalizing k with
  | nil => simp
  | cons a r ih =>
    cases k with
    | zero => simp [bytesS]
    | succ k => rw [List.take_succ_cons]; have := ih k; simp only [bytesS]; omega
set_option maxHeartbeats 1000000 in
theorem greatC_any (c : Cf) (tv : Value) (w : World) (hv : Strs w tv c.tags) (hz : ∀ x ∈ c.tags, x.size ≤ 140737488351232) (hl : c.tags.length ≤ 9223372036854775807) (ho : c.os.size ≤ 140737488351232) (ha : c.arch.size ≤ 140737488351232) :
    Calls Tryz.prog 7 #[cfV c tv] w fun e w' => e = .returned (.bool (greatC c)) ∧ Below w.heap.size w w' := by
  obtain ⟨p, cap, rfl, hp⟩ := strs_shape hv
  unfold cfV greatC
  obtain ⟨os, arch, cgo, lv, ss⟩ := c
  simp only at *
  have Hp := Lib.hid hp
  have Hz := Lib.hid hz
  obtain ⟨len, hlen⟩ : ∃ len, len = ss.length := ⟨_, rfl⟩
  rw [← hlen] at Hp hl ⊢
  have Hlen := Lib.hid hlen
  have Hle := Lib.hid (bytesS_le ss)
  obtain ⟨B, hB⟩ : ∃ B, B = (decide (512 < os.size + arch.size + bytesS ss) || decide (20 < len)) := ⟨_, rfl⟩
  rw [← hB]
  have HB := Lib.hid hB
  clear hv hp hlen hz hB
  have hBx := (Below.refl w.heap.size w).alloc (Nat.le_refl _) (Obj.cells #[.string os, .string arch, .bool cgo, .int .i64 lv, .slice p len cap] 24)
  go_enter Tryz.func7, Tryz.ntmps7
  go_wp2_with fail
  go_loopg [3, 5, 16] len (fun g n _ i wr => ∃ k a : Nat, k + g = len ∧ i = .int .i64 k ∧ n = .int .i64 a ∧ a = os.size + arch.size + bytesS (ss.take k) ∧ (k = 0 ∨ a ≤ 512) ∧ a ≤ 281474976702464 ∧ wr = w.alloc (Obj.cells #[.string os, .string arch, .bool cgo, .int .i64 lv, .slice p len cap] 24))
  case atStart => exact ⟨0, os.size + arch.size, by omega, rfl, by go_num, by simp [bytesS], .inl rfl, by omega, rfl⟩
  case round =>
    obtain ⟨k, a, hk, rfl, rfl, hn, ha2, ha3, rfl⟩ := hrel
    by_cases hlt : k < len
    · obtain ⟨b, off, rfl, hb, hcap, hmax, hcell⟩ := Hp.out (by omega)
      have hltI : (k : Int) < (len : Int) := by omega
      have hc := (hBx.cell (p := ⟨b, off + k, none⟩) hb).trans (hcell k hlt)
      have hbr := Nat.lt_of_lt_of_le hb hBx.size
      have hkl : k < ss.length := by have := Hlen.out; omega
      have hts := bytesS_take ss k hkl
      have hmem := Hz.out _ (getD_mem hkl)
      unfold maxLen at hmax
      obtain ⟨y, hy⟩ : ∃ y, y = ss.getD k ByteArray.empty := ⟨_, rfl⟩
      rw [← hy] at hc hts hmem
      have hts2 : os.size + arch.size + bytesS (ss.take (k + 1)) = a + y.size := by omega
      have Hts := Lib.hid hts2
      clear hy hts hts2 hcell hn
      by_cases hxy : 512 < a + y.size
      · have h1 : (512 : Int) < (a : Int) + (y.size : Int) := by omega
        have Hin := Lib.hid (show B = true by
          have h2 := Hle.out (k + 1)
          have h3 := Hts.out
          rw [HB.out, decide_eq_true (show 512 < os.size + arch.size + bytesS ss by omega)]; rfl)
        clear hxy
        go_wp2_with fail
        go_ret
        exact ⟨by rw [Hin.out]; rfl, hBx⟩
      · have h1 : ¬ (512 : Int) < (a : Int) + (y.size : Int) := by omega
        go_wp2_with fail
        go_roundg (gk - 1)
        case measure => omega
        case rel => exact ⟨k + 1, a + y.size, by omega, by go_num, by go_num, Hts.out.symm, .inr (by omega), by omega, rfl⟩
    · have hkl : ss.take k = ss := List.take_of_length_le (by have := Hlen.out; omega)
      rw [hkl] at hn
      obtain rfl : k = len := by omega
      have hnI : ¬ (k : Int) < (k : Int) := by omega
      have hb : B = (decide (512 < a) || decide (20 < k)) := by rw [HB.out, hn]
      have Hb := Lib.hid hb
      clear hb hkl hn
      by_cases h20 : 20 < k
      · have h1 : (20 : Int) < (k : Int) := by omega
        have Hb2 := Lib.hid (show B = true by rw [Hb.out, decide_eq_true h20, Bool.or_true])
        go_wp2_with fail
        go_ret
        exact ⟨by rw [Hb2.out]; rfl, hBx⟩
      · have h1 : ¬ (20 : Int) < (k : Int) := by omega
        by_cases h5 : 512 < a
        · have h5I : (512 : Int) < (a : Int) := by omega
          have Hb2 := Lib.hid (show B = true by rw [Hb.out, decide_eq_true h5]; rfl)
          go_wp2_with fail
          go_ret
          exact ⟨by rw [Hb2.out]; rfl, hBx⟩
        · have h5I : ¬ (512 : Int) < (a : Int) := by omega
          have Hb2 := Lib.hid (show B = false by rw [Hb.out, decide_eq_false h5, decide_eq_false h20]; rfl)
          go_wp2_with fail
          go_ret
          exact ⟨by rw [Hb2.out]; rfl, hBx⟩
end Go.Proofs.YtpibehfmbmincaaGreatDoor
