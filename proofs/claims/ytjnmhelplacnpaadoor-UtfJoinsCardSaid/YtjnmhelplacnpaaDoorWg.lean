/- Walks: the statement UtfJoins. -/
import Derived.Test.YtjnmhelplacnpaaDoorWf
import Derived.ChangeSlices
namespace Go.Proofs.YtjnmhelplacnpaaDoor
set_option linter.unusedVariables false
open Go.ChangeShapes Go.WideShapes Go.ChangeAt Go.RowKit

/-- v is a list of integers in memory: of none, or a row of cells. -/
def Ints (w : World) (v : Value) (zs : List Int) : Prop :=
  ((∃ p cap, v = .slice p 0 cap) ∧ zs = []) ∨
  ∃ b off cap, v = .slice (some ⟨b, off, none⟩) zs.length cap ∧ zs.length ≤ cap ∧ cap ≤ maxLen ∧ b < w.heap.size ∧ ∀ i, i < zs.length → w.cell? ⟨b, off + i, none⟩ = some (.int .i64 (zs.getD i 0))

theorem ints_open' {H : Type} {enc : TypeId × Value → H} {P : Program} {W : World} {base : Nat} {t e : TypeId} (ht : P.underlying t = some (.slice e)) (he : P.underlying e = some (.int .i64)) (hc : P.cellsOf e = 1)
    {a : Option Addr} {len cap fuel : Nat} {d : DataW H} {p : List MemPlace} (hf : DataW.trod enc P W base (fun _ => true) true fuel t (Value.slice a len cap).cells.toList = some (d, p)) :
    ∃ zs, Ints W (.slice a len cap) zs ∧ zs.length ≤ 9223372036854775807 := by
  rcases open_ints ht he hc hf with ⟨hcs, _⟩ | ⟨x, l, c, zs, hcs, _, hl, hm, hz, _, hcell, hwz⟩
  · simp [Value.cells] at hcs
    obtain ⟨rfl, rfl, rfl⟩ := hcs
    exact ⟨[], .inl ⟨⟨_, _, rfl⟩, rfl⟩, by simp⟩
  · simp [Value.cells] at hcs
    obtain ⟨rfl, rfl, rfl⟩ := hcs
    have hz' : zs.length = cap := by simpa using hz
    have hlen : (zs.take len).length = len := by rw [List.length_take]; omega
    refine ⟨zs.take len, ?_, by rw [hlen]; unfold maxLen at hm; omega⟩
    by_cases h0 : len = 0
    · subst h0; exact .inl ⟨⟨_, _, rfl⟩, by simp⟩
    · obtain ⟨b, off, spot⟩ := x
      have hc0 := hcell 0 (by omega)
      have hspot : spot = none := by simpa [Addr.add] using World.cell?_spot hc0
      subst hspot
      refine .inr ⟨b, off, cap, by rw [hlen], by rw [hlen]; exact hl, hm, ?_, fun i hi => ?_⟩
      · have := World.block_lt_of_cell? W _ hc0
        simpa [Addr.add] using this
      · have := hcell i (by omega)
        rw [hlen] at hi
        have e : (⟨b, off, none⟩ : Addr).add i = ⟨b, off + i, none⟩ := by unfold Addr.add; split <;> simp_all
        rw [e] at this
        simpa [List.getD, List.getElem?_take_of_lt hi] using this

def catL : List Int → List UInt8 | [] => [] | z :: r => (encB z.toNat).data.toList ++ catL r
def catB (zs : List Int) : ByteArray := ⟨(catL zs).toArray⟩
theorem catL_append (a b : List Int) : catL (a ++ b) = catL a ++ catL b := by
  induction a with
  | nil => rfl
  | cons z r ih => simp [catL, ih]
theorem catL_take (zs : List Int) (k : Nat) (h : k < zs.length) : catL (zs.take (k + 1)) = catL (zs.take k) ++ (encB (zs.getD k 0).toNat).data.toList := by
  rw [List.take_succ_eq_append_getElem h, catL_append]
  simp [catL, List.getD, h]
theorem catB_size (zs : List Int) : (catB zs).size = (catL zs).length := by simp [catB, ByteArray.size]
theorem catB_append (a : List Int) (t : ByteArray) : catB a ++ t = ⟨(catL a ++ t.data.toList).toArray⟩ := by
  apply ba_ext
  simp only [ByteArray.data_append, Array.toList_append]
  rfl

/-- Sign k is one, and a mark stands at the beginning alone. -/
def okAt (zs : List Int) (k : Nat) : Prop := isSign (zs.getD k 0) = true ∧ (zs.getD k 0 = 65279 → k = 0)

theorem enc_le4 (c : Nat) (h : c ≤ 1114111) : 1 ≤ (encB c).size ∧ (encB c).size ≤ 4 := by
  rw [enc_size c h, encN_len]
  repeat' split
  all_goals omega

theorem ok_nat {zs : List Int} {k : Nat} (h : okAt zs k) : ∃ c : Nat, zs.getD k 0 = c ∧ isSign c = true ∧ c ≤ 1114111 := by
  have := of_decide_eq_true h.1
  refine ⟨(zs.getD k 0).toNat, by omega, ?_, by omega⟩
  rw [show (((zs.getD k 0).toNat : Nat) : Int) = zs.getD k 0 by omega]
  exact h.1

theorem cat_len (zs : List Int) : ∀ k, k ≤ zs.length → (∀ j, j < k → okAt zs j) → (catL (zs.take k)).length ≤ 4 * k := by
  intro k
  induction k with
  | zero => intro _ _; simp [catL]
  | succ k ih =>
    intro hk hok
    rw [catL_take zs k (by omega), List.length_append]
    have h1 := ih (by omega) (fun j hj => hok j (by omega))
    obtain ⟨c, hc, _, hle⟩ := ok_nat (hok k (by omega))
    have h2 := (enc_le4 c hle).2
    rw [hc, Int.toNat_natCast, ← Lib.size_eq]
    omega

theorem cat_drop (zs : List Int) (k : Nat) (h : k < zs.length) : (catB zs).data.toList.drop (catL (zs.take k)).length = (encB (zs.getD k 0).toNat).data.toList ++ catL (zs.drop (k + 1)) := by
  have e : catL zs = catL (zs.take k) ++ ((encB (zs.getD k 0).toNat).data.toList ++ catL (zs.drop (k + 1))) := by
    conv => lhs; rw [← List.take_append_drop (k + 1) zs, catL_append, catL_take zs k h]
    rw [List.append_assoc]
  show (catL zs).drop _ = _
  conv => lhs; rw [e]
  rw [List.drop_left' rfl]

set_option maxHeartbeats 800000 in
theorem joins_many (v : Value) (zs : List Int) (w : World) (hv : Ints w v zs) (hl : 200 < zs.length) (hm : zs.length ≤ 9223372036854775807) (hT : Lib.Utf8Tabs 0 1 w) : Calls Tryd.prog 7 #[v] w (LawEnd w) := by
  rcases hv with ⟨_, rfl⟩ | ⟨b, off, cap, rfl, hcap, hmax, hb, hcell⟩
  · simp at hl
  · have ha := alive_any w hT
    have hc0 := hcell 0 (by omega)
    have hcx : ∀ w1, Below w.heap.size w w1 → w1.cell? ⟨b, off + 0, none⟩ = some (.int .i64 (zs.getD 0 0)) := fun w1 hB => by rw [hB.cell (p := ⟨b, off + 0, none⟩) hb]; exact hc0
    have Ha := Lib.hid ha
    have Hcx := Lib.hid hcx
    generalize zs.length = len at *
    have hd : decide ((200 : Int) < len) = true := decide_eq_true (by omega)
    clear ha hcx hc0 hcell hT
    unfold maxLen at hmax
    go_enter Tryd.func7, Tryd.ntmps7
    go_wp2_with fail
    refine Ha.out.mono ?_
    rintro e w1 ⟨rfl, hB⟩
    have hc := Hcx.out _ hB
    rw [Nat.add_zero] at hc
    go_wp2_with fail
    refine wp_loop_rounds 1 ?_
    rw [rounds_succ]
    go_wp2_with fail
    go_ret
    exact ⟨rfl, hB⟩

set_option maxHeartbeats 1600000 in
theorem joins_few (v : Value) (zs : List Int) (w : World) (hv : Ints w v zs) (hl : zs.length ≤ 200) (hT : Lib.Utf8Tabs 0 1 w) : Calls Tryd.prog 7 #[v] w (LawEnd w) := by
  have ha := alive_any w hT
  have Ha := Lib.hid ha
  clear ha
  rcases hv with ⟨⟨pz, cz, rfl⟩, rfl⟩ | ⟨b, off, cap, rfl, hcap, hmax, hb, hcell⟩
  · go_enter Tryd.func7, Tryd.ntmps7
    go_wp2_with fail
    refine Ha.out.mono ?_
    rintro e w1 ⟨rfl, hB⟩
    go_wp2_with fail
    refine wp_loop_rounds 1 ?_
    rw [rounds_succ]
    go_wp2_with fail
    refine wp_loop_rounds 1 ?_
    rw [rounds_succ]
    go_wp2_with fail
    go_ret
    exact ⟨rfl, hB⟩
  · obtain ⟨len, hlen⟩ : ∃ len, len = zs.length := ⟨_, rfl⟩
    rw [← hlen] at hcap hl hcell ⊢
    have Hlen := Lib.hid hlen
    unfold maxLen at hmax
    have hd : decide ((200 : Int) < len) = false := decide_eq_false (by omega)
    clear hlen
    go_enter Tryd.func7, Tryd.ntmps7
    go_wp2_with fail
    refine Ha.out.mono ?_
    rintro e w1 ⟨rfl, hB1⟩
    go_wp2_with fail
    go_loopw [3, 4, 5, 15] (fun s _ _ i wr => ∃ k : Nat, k ≤ len ∧ i = .int .i64 k ∧ s = .string (catB (zs.take k)) ∧ (∀ j, j < k → okAt zs j) ∧ Below w.heap.size w wr) (fun _ _ _ i _ => len - (intOf i).toNat)
    case atStart => exact ⟨0, by omega, rfl, rfl, fun j hj => by omega, hB1⟩
    case round =>
      obtain ⟨k, hk, rfl, rfl, hok, hB⟩ := hrel
      clear hB1
      have Hok := Lib.hid hok
      by_cases hlt : k < len
      · have hc : wr.cell? ⟨b, off + k, none⟩ = some (.int .i64 (zs.getD k 0)) := by rw [hB.cell (p := ⟨b, off + k, none⟩) hb]; exact hcell k hlt
        have hct := catL_take zs k (by have := Hlen.out; omega)
        have hcl := cat_len zs k (by have := Hlen.out; omega) hok
        rw [← catB_size] at hcl
        obtain ⟨z, hz⟩ : ∃ z, z = zs.getD k 0 := ⟨_, rfl⟩
        rw [← hz] at hc hct
        obtain ⟨t, ht⟩ : ∃ t, t = catB (zs.take k) := ⟨_, rfl⟩
        rw [← ht] at hcl ⊢
        have Hz := Lib.hid hz
        have Ht := Lib.hid ht
        have Hct := Lib.hid hct
        have hts : t.size ≤ 800 := by omega
        clear hz ht hct hcell hok hcl
        cases hsg : isSign z with
        | false =>
          have hs1 : ∀ w1, Calls Tryd.prog 13 #[.int .i64 z] w1 fun e w' => e = .returned (.bool false) ∧ w1 = w' := fun w1 => by have := sign_any z w1; rwa [hsg] at this
          have Hs1 := Lib.hid hs1
          clear hs1 hsg
          go_wp2_with fail
          refine (Hs1.out _).mono ?_
          rintro e w2 ⟨rfl, rfl⟩
          go_wp2_with fail
          go_ret
          exact ⟨rfl, hB⟩
        | true =>
          have hs1 : ∀ w1, Calls Tryd.prog 13 #[.int .i64 z] w1 fun e w' => e = .returned (.bool true) ∧ w1 = w' := fun w1 => by have := sign_any z w1; rwa [hsg] at this
          have Hs1 := Lib.hid hs1
          have Hsg := Lib.hid hsg
          clear hs1 hsg
          by_cases hbad : z = 65279 ∧ 0 < k
          · obtain ⟨rfl, hk0⟩ := hbad
            have hk1 : decide (0 < k) = true := decide_eq_true hk0
            go_wp2_with fail
            refine (Hs1.out _).mono ?_
            rintro e w2 ⟨rfl, rfl⟩
            go_wp2_with fail
            go_ret
            exact ⟨rfl, hB⟩
          · have hokk : okAt zs k := ⟨by rw [← Hz.out]; exact Hsg.out, fun e => by rw [← Hz.out] at e; omega⟩
            obtain ⟨c, hcz, hcs, hcl⟩ := ok_nat hokk
            rw [← Hz.out] at hcz
            have henc := enc_le4 c hcl
            have hy : ∀ w1, Calls Tryd.prog 14 #[.int .i64 z] w1 fun e w' => e = .returned (.string (encB c)) ∧ Below w1.heap.size w1 w' := fun w1 => by rw [hcz]; exact bytes_any c w1 hcl
            have Hy := Lib.hid hy
            have Hcz := Lib.hid hcz
            have Hokk := Lib.hid hokk
            obtain ⟨ec, hec⟩ : ∃ ec, ec = encB c := ⟨_, rfl⟩
            rw [← hec] at henc Hy
            have Hec := Lib.hid hec
            have hes : ec.size ≤ 4 := henc.2
            clear hy hcz hokk hcs hec henc
            have go_on : ∀ w2, Below w.heap.size w w2 → ∃ k1 : Nat, k1 ≤ len ∧ (Value.int IntKind.i64 (↑k + 1)) = .int .i64 k1 ∧ (Value.string (t ++ ec)) = .string (catB (zs.take k1)) ∧ (∀ j, j < k1 → okAt zs j) ∧ Below w.heap.size w w2 := fun w2 h2 =>
              ⟨k + 1, by omega, by go_num, by
                rw [Ht.out, Hec.out, catB_append, catB, Hct.out, Hcz.out, Int.toNat_natCast], fun j hj => by
                by_cases e : j = k
                · rw [e]; exact Hokk.out
                · exact Hok.out j (by omega), h2⟩
            have Hon := Lib.hid go_on
            clear go_on
            by_cases hz9 : z = 65279
            · have hk0 : k = 0 := by omega
              subst hk0
              subst hz9
              rw [Nat.add_zero] at hc
              go_wp2_with fail
              refine (Hs1.out _).mono ?_
              rintro e w2 ⟨rfl, rfl⟩
              go_wp2_with fail
              refine (Hy.out _).mono ?_
              rintro e w2 ⟨rfl, hB2⟩
              have hB02 := hB.trans (hB2.mono hB.size)
              clear hB hB2
              go_wp2_with fail
              exact ⟨Hon.out _ hB02, by simp [intOf]; omega⟩
            · have hzb : (z == 65279) = false := beq_eq_false_iff_ne.2 hz9
              clear hbad hz9
              go_wp2_with fail
              refine (Hs1.out _).mono ?_
              rintro e w2 ⟨rfl, rfl⟩
              go_wp2_with fail
              refine (Hy.out _).mono ?_
              rintro e w2 ⟨rfl, hB2⟩
              have hB02 := hB.trans (hB2.mono hB.size)
              clear hB hB2
              go_wp2_with fail
              exact ⟨Hon.out _ hB02, by simp [intOf]; omega⟩
      · obtain rfl : k = len := by omega
        have htk : zs.take k = zs := by rw [Hlen.out, List.take_length]
        rw [htk]
        have hsz : (catB zs).size ≤ 800 := by
          have := cat_len zs k (by have := Hlen.out; omega) hok
          rw [htk, ← catB_size] at this
          omega
        have hdrop := fun j hj => cat_drop zs j hj
        have hend : (catB zs).size = (catL (zs.take k)).length := by rw [htk, catB_size]
        have hrune : ∀ (j : Nat) w1, j < k → Below w.heap.size w w1 → Calls Tryd.prog 9 #[.string (catB zs), .int .i64 ((catL (zs.take j)).length : Nat)] w1 fun e w' => e = .returned (.tuple #[.int .i32 (zs.getD j 0), .int .i64 (encB (zs.getD j 0).toNat).size]) ∧ Below w1.heap.size w1 w' := fun j w1 hj hB => by
          obtain ⟨c, hcz, hcs, hcl⟩ := ok_nat (hok j hj)
          have hd := hdrop j (by have := Hlen.out; omega)
          rw [hcz, Int.toNat_natCast] at hd ⊢
          have hpos := (enc_le4 c hcl).1
          have hlt2 : (catL (zs.take j)).length < (catB zs).size := by
            have := congrArg List.length hd
            rw [List.length_drop, List.length_append, ← Lib.size_eq, ← Lib.size_eq] at this
            omega
          have := rune_in (catB zs) (catL (zs.take j)).length w1 hlt2 (by omega) (tabs_below hT hB)
          rwa [rune_enc hd hcs (fun e => by
            have hj0 := (hok j hj).2 (by rw [hcz, e]; rfl)
            rw [hj0]; rfl)] at this
        have hone : ∀ j, j < k → (catL (zs.take (j + 1))).length = (catL (zs.take j)).length + (encB (zs.getD j 0).toNat).size ∧ 1 ≤ (encB (zs.getD j 0).toNat).size ∧ (encB (zs.getD j 0).toNat).size ≤ 4 ∧ -2147483648 ≤ zs.getD j 0 ∧ zs.getD j 0 ≤ 2147483647 := fun j hj => by
          obtain ⟨c, hcz, hcs, hcl⟩ := ok_nat (hok j hj)
          rw [catL_take zs j (by have := Hlen.out; omega), List.length_append, ← Lib.size_eq, hcz, Int.toNat_natCast]
          have := enc_le4 c hcl
          omega
        have hcl4 : ∀ j, j ≤ k → (catL (zs.take j)).length ≤ 800 := fun j hj => by
          have := cat_len zs j (by have := Hlen.out; omega) (fun i hi => hok i (by omega))
          omega
        have Hr := Lib.hid hrune
        have Ho := Lib.hid hone
        have Hend := Lib.hid hend
        have H4 := Lib.hid hcl4
        have Hcell := Lib.hid hcell
        generalize catB zs = cs at *
        clear hrune hone hend hdrop htk hok Hok hT hcl4 hcell
        obtain ⟨wo, rfl⟩ : ∃ wo : World, wo = wr := ⟨_, rfl⟩
        go_wp2_with fail
        go_loopw [6, 8, 9, 10, 43] (fun a _ _ _ i wr => ∃ j : Nat, j ≤ k ∧ i = .int .i64 j ∧ a = .int .i64 ((catL (zs.take j)).length : Nat) ∧ Below w.heap.size w wr) (fun _ _ _ _ i _ => k - (intOf i).toNat)
        case atStart => exact ⟨0, by omega, rfl, rfl, hB⟩
        case round =>
          obtain ⟨j, hj, rfl, rfl, hB2⟩ := hrel
          by_cases hjk : j < k
          · have hc : wr.cell? ⟨b, off + j, none⟩ = some (.int .i64 (zs.getD j 0)) := by rw [hB2.cell (p := ⟨b, off + j, none⟩) hb]; exact Hcell.out j hjk
            obtain ⟨o1, o2, o3, o4, o5⟩ := Ho.out j hjk
            have hcc := Hr.out j _ hjk hB2
            have h4 := H4.out j (by omega)
            have Ho1 := Lib.hid o1
            have Hcc := Lib.hid hcc
            generalize (catL (zs.take j)).length = p at *
            generalize (encB (zs.getD j 0).toNat).size = n at *
            generalize zs.getD j 0 = z at *
            have hz0 : ((n : Int) == 0) = false := beq_eq_false_iff_ne.2 (by omega)
            clear o1 hcc
            go_wp2_with fail
            refine Hcc.out.mono ?_
            rintro e w3 ⟨rfl, hB3⟩
            have hB03 := hB2.trans (hB3.mono hB2.size)
            clear hB2 hB3
            go_wp2_with fail
            exact ⟨⟨j + 1, by omega, by go_num, by rw [Ho1.out]; go_num, hB03⟩, by simp [intOf]; omega⟩
          · obtain rfl : j = k := by omega
            have he := Hend.out
            have heb : (((catL (zs.take j)).length : Int) == (cs.size : Int)) = true := by rw [he]; simp
            generalize (catL (zs.take j)).length = p at *
            clear he
            go_wp2_with fail
            go_ret
            exact ⟨rfl, hB2⟩

theorem joins_walk (v : Value) (zs : List Int) (w : World) (hv : Ints w v zs) (hm : zs.length ≤ 9223372036854775807) (hT : Lib.Utf8Tabs 0 1 w) : Calls Tryd.prog 7 #[v] w (LawEnd w) := by
  by_cases h : zs.length ≤ 200
  · exact joins_few v zs w hv h hT
  · exact joins_many v zs w hv (by omega) hm hT
end Go.Proofs.YtjnmhelplacnpaaDoor
